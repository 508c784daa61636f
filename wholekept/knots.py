"""Knots, and the copying order.

Knots are kept in a dict from each knot's smallest place, its head, to all its places in order of size.
"""

from wholekept.reaching import above_of
from wholekept.reaching import closure_of
from wholekept.reaching import keys_of
from wholekept.reaching import referrers_among
from wholekept.reaching import spread


def knot_of(store, p):
    """The knot of p, in order of size."""
    above = keys_of(above_of(store, [p]))
    return [place for place in closure_of(store, [p]) if place in above]


def finish_order(store, places):
    """The places in the order in which a walk along the references, deeper first, is done with each of them."""
    finished = []
    met = {}
    waiting = [(place, False) for place in places]
    while len(waiting) > 0:
        step = waiting.pop()
        place = step[0]
        if step[1]:
            finished.append(place)
        elif place not in met:
            met[place] = True
            # Its own end lies below its references, so it is taken up when the walk is done with these.
            waiting.append((place, True))
            waiting.extend([(reference, False) for reference in store.references[place]])
    return finished


def knots_among(store, places):
    """The knots of the places, which are a whole closure."""
    referrers = referrers_among(store, places)
    met = {}
    knots = {}
    # Of the places that aren't in a knot yet, the one that was finished last is reached by its own knot alone.
    for place in reversed(finish_order(store, places)):
        if place not in met:
            knot = spread(referrers, [place], met)
            knots[knot[0]] = knot
    return knots


def heads_of(knots):
    """A dict from each place in the knots to its knot's head."""
    heads = {}
    for head in knots:
        for place in knots[head]:
            heads[place] = head
    return heads


def needs_of(store, knots):
    """A dict from each knot's head to the heads of the other knots that its places mention, each once."""
    heads = heads_of(knots)
    needs = {}
    for head in knots:
        needed = {}
        for place in knots[head]:
            for reference in store.references[place]:
                if heads[reference] != head:
                    needed[heads[reference]] = True
        needs[head] = list(needed)
    return needs


def needers_of(needs):
    """The needs turned round: a dict from each head to the heads of the knots that need its knot."""
    needers = {}
    for head in needs:
        needers[head] = []
    for head in needs:
        for needed in needs[head]:
            needers[needed].append(head)
    return needers


def copying_order(store, goals):
    """The closure of the goals in copying order; the goals are valid places."""
    knots = knots_among(store, closure_of(store, goals))
    needs = needs_of(store, knots)
    needers = needers_of(needs)
    lacking = {}
    for head in needs:
        lacking[head] = len(needs[head])
    free = keys_of([head for head in lacking if lacking[head] == 0])
    listed = []
    while len(free) > 0:
        head = min(free)
        free.pop(head)
        listed.extend(knots[head])
        for needer in needers[head]:
            lacking[needer] = lacking[needer] - 1
            if lacking[needer] == 0:
                free[needer] = True
    return listed


def top_places(store):
    """The places of all knots that no valid place outside of them mentions, in order of size."""
    knots = knots_among(store, store.held)
    needers = needers_of(needs_of(store, knots))
    places = []
    for head in knots:
        if len(needers[head]) == 0:
            places.extend(knots[head])
    return sorted(places)
