"""Going along the references, forth and back, as far as it goes."""


def spread(links, starts, met):
    """The places that are met from the starts along the links and weren't met before, in order of size.

    links is a dict from places to lists of places; met, a dict with the places as its keys, gets those found.
    """
    found = []
    waiting = list(starts)
    while len(waiting) > 0:
        place = waiting.pop()
        if place not in met:
            met[place] = True
            found.append(place)
            waiting.extend(links[place])
    return sorted(found)


def referrers_among(store, places):
    """A dict from each of the places to those of them that mention it; the places are a whole closure."""
    referrers = {}
    for place in places:
        referrers[place] = []
    for place in places:
        for reference in store.references[place]:
            referrers[reference].append(place)
    return referrers


def closure_of(store, goals):
    """The closure of the goals, in order of size; the goals are valid places."""
    return spread(store.references, goals, {})


def above_of(store, goals):
    """All valid places that reach at least one of the goals, in order of size; the goals are valid places."""
    return spread(referrers_among(store, store.held), goals, {})


def keys_of(places):
    """A dict with the places as its keys, to be asked with in."""
    keys = {}
    for place in places:
        keys[place] = True
    return keys


def without(places, others):
    """Those of the places, in their order, that aren't among the others."""
    left_out = keys_of(others)
    return [place for place in places if place not in left_out]
