"""Many made-up lines of calls, answered by the program and by a slow second writing of the document."""

import random
import re
import unittest

from tests.helper import (
    COMMIT, COUNTS, DROP, TOPS, VALID, above, add, closure, freed, get, knot, lose, missing, order, parcel_of, pinned,
    play, read, referrers, refs, room, stage, sweep, take, write)

MENTION = re.compile(rb"@(0|[1-9][0-9]*);")
RECORD = re.compile(rb"(0|[1-9][0-9]{0,8}):(0|[1-9][0-9]{0,8}):")


def mentioned(text):
    # Numbers are told by their digits: each number has but one writing in a mention.
    return {found.group(1).decode() for found in MENTION.finditer(text)}


class Model:
    def __init__(self):
        self.limit, self.now, self.ever, self.waiting = 65536, {}, {}, {}

    def load(self):
        return sum(map(len, self.now.values()))

    def admit(self, batch):
        if any(self.ever.get(p, text) != text for p, text in batch.items()):
            return [-4]
        there = {str(p) for p in self.now} | {str(p) for p in batch}
        if any(mentioned(text) - there for text in batch.values()):
            return [-5]
        fresh = {p: text for p, text in batch.items() if p not in self.now}
        if self.load() + sum(map(len, fresh.values())) > self.limit:
            return [-6]
        self.now.update(fresh)
        self.ever.update(fresh)
        return [0] + sorted(fresh)

    def room(self, n):
        if not 0 <= n <= 65536:
            return [-9]
        if self.load() > n:
            return [-6]
        self.limit = n
        return [0]

    def add(self, p, text):
        if p not in range(1024):
            return [-1]
        if len(text) > 4096:
            return [-2]
        found = self.admit({p: bytes(text)})
        return [len(found) - 1] if found[0] == 0 else found

    def stage(self, p, text):
        if p not in range(1024):
            return [-1]
        if len(text) > 4096:
            return [-2]
        if p in self.waiting:
            return [-3]
        if len(self.waiting) == 64:
            return [-9]
        self.waiting[p] = bytes(text)
        return [len(self.waiting)]

    def commit(self):
        found = self.admit(self.waiting)
        if found[0] == 0:
            self.waiting = {}
        return found

    def drop(self):
        count, self.waiting = len(self.waiting), {}
        return [count]

    def held(self, p, texts):
        if p not in range(1024):
            return [-1]
        return [0, *texts[p]] if p in texts else [-7]

    def look(self, places):
        if len(places) > 64:
            return [-9]
        if set(places) - set(range(1024)):
            return [-1]
        return [-7] if set(places) - set(self.now) else [0]

    def refs(self, p):
        return self.look([p]) if self.look([p]) != [0] else [0] + sorted(map(int, mentioned(self.now[p])))

    def referrers(self, p):
        if self.look([p]) != [0]:
            return self.look([p])
        return [0] + sorted(q for q in self.now if q != p and str(p) in mentioned(self.now[q]))

    def reach(self, goals):
        found, before = set(goals), None
        while found != before:
            before = set(found)
            for p in before:
                found |= set(map(int, mentioned(self.now[p])))
        return found

    def knot(self, p):
        return {q for q in self.reach([p]) if p in self.reach([q])}

    def reaching(self, goals):
        return {p for p in self.now if self.reach([p]) & set(goals)}

    def order(self, goals):
        knots = {frozenset(self.knot(p)) for p in self.reach(goals)}
        listed = []
        while knots:
            free = [k for k in knots if all(set(map(int, mentioned(self.now[p]))) <= k | set(listed) for p in k)]
            chosen = min(free, key=min)
            listed += sorted(chosen)
            knots.remove(chosen)
        return listed

    def tops(self):
        found = []
        for p in sorted(self.now):
            whole = self.knot(p)
            if all(q in whole or not whole & set(map(int, mentioned(self.now[q]))) for q in self.now):
                found.append(p)
        return [0] + found

    def leave(self, places):
        for p in places:
            del self.now[p]
        return [0] + sorted(places)

    def take(self, places):
        outside = set(self.now) - set(places)
        if any(mentioned(self.now[q]) & set(map(str, places)) for q in outside):
            return [-8]
        return self.leave(set(places))

    def write(self, goals):
        parcel = b"".join(b"%d:%d:%s\n" % (p, len(self.now[p]), self.now[p]) for p in self.order(goals)) + b"."
        return [0, *parcel] if len(parcel) <= 8192 else [-2]

    def listed(self, kind, *lists):
        """The answer of a call of lists of places, each of which is looked at."""
        for places in lists:
            if self.look(places) != [0]:
                return self.look(places)
        return {
            "closure": lambda goals: [0] + sorted(self.reach(goals)),
            "above": lambda goals: [0] + sorted(self.reaching(goals)),
            "order": lambda goals: [0] + self.order(goals),
            "take": self.take,
            "sweep": lambda roots: self.leave(set(self.now) - self.reach(roots)),
            "lose": lambda places: self.leave(self.reaching(places)),
            "knot": lambda places: [0] + sorted(self.knot(places[0])),
            "freed": lambda places, roots: [0] + sorted(self.reach(places) - self.reach(roots)),
            "missing": lambda goals, there: [0] + [p for p in self.order(goals) if p not in self.reach(there)],
            "write": self.write,
        }[kind](*lists)

    def records(self, parcel):
        found, at = [], 0
        while parcel[at:] != b".":
            head = RECORD.match(parcel, at)
            if head is None:
                return None
            end = head.end() + int(head.group(2))
            if parcel[end:end + 1] != b"\n":
                return None
            found.append((int(head.group(1)), parcel[head.end():end]))
            at = end + 1
        return found

    def read(self, parcel, rule):
        if len(parcel) > 8192:
            return [-2]
        told = rule[::2]
        if len(rule) % 2 or min(rule, default=0) < 0 or len(told) != len(set(told)):
            return [-11]
        records = self.records(bytes(parcel))
        if records is None:
            return [-10]
        names = dict(zip(map(str, told), map(str, rule[1::2])))
        renamed = [(int(names.get(str(p), str(p))), self.rename(text, names)) for p, text in records]
        if any(p > 1023 for p, text in renamed):
            return [-1]
        if len(dict(renamed)) < len(renamed):
            return [-3]
        if any(len(text) > 4096 for p, text in renamed):
            return [-2]
        return self.admit(dict(renamed))

    def rename(self, text, names):
        return MENTION.sub(lambda found: b"@%s;" % names.get(found[1].decode(), found[1].decode()).encode(), text)


LISTED = {"closure": closure, "above": above, "order": order, "take": take, "sweep": sweep, "lose": lose,
          "write": write}
KINDS = ("room " + "add " * 4 + "stage " * 6 + "commit " * 4 + "drop get pinned counts valid refs referrers closure "
         "above knot knot order order tops tops take take sweep lose freed missing missing write read read").split()


class Maker:
    """Makes up calls over few places, so that they often meet."""

    def __init__(self, seed):
        self.random = random.Random(seed)
        self.pins = {}

    def place(self):
        if self.random.random() < 0.04:
            return self.random.choice((-1, 1024, 10 ** 18, -10 ** 18))
        return self.random.choice((0, 1, 2, 3, 5, 7, 10, 1023))

    def places(self):
        """Mostly few, so that not one of them is absent."""
        chosen = [self.place() for k in range(self.random.choice((0, 1, 1, 1, 2, 3)))]
        if self.random.random() < 0.1:
            return chosen + chosen[-1:] * self.random.choice((62, 63, 64))
        return chosen

    def piece(self):
        place = self.random.choice((0, 1, 2, 3, 5, 7, 10, 1023))
        if self.random.random() < 0.55:
            return f"@{place};"
        return self.random.choice(("@", ";", f"@0{place};", f"@{place}", str(place), "x", "@;", "\n", ".", ":",
                                   "@77;" if self.random.random() < 0.1 else "@@", f"{place}:1:a\n", ""))

    def text(self, p):
        """Mostly what was made for the place before, so that it isn't always refused for its pin."""
        if p in self.pins and self.random.random() < 0.8:
            return self.pins[p]
        text = "".join(self.piece() for k in range(self.random.choice((0, 0, 1, 1, 2, 4))))
        if self.random.random() < 0.02:
            text += "a" * self.random.choice((4096 - len(text), 4097 - len(text)))
        return self.pins.setdefault(p, text)

    def rule(self):
        numbers = self.random.sample((0, 1, 2, 3, 5, 7, 10, 1023, 1024, 10 ** 18), self.random.choice((0, 0, 1, 3, 5)))
        rule = []
        for number in numbers:
            rule += [number, self.random.choice((number, number, 0, 1, 2, 3, 5, 7, 1023, 1024))]
        if self.random.random() < 0.05:
            rule.append(self.random.choice((0, -1)))
        if self.random.random() < 0.05:
            rule += [0, 1]
        return rule

    def parcel(self):
        places = self.random.sample((0, 1, 2, 3, 5, 7, 10, 1023), self.random.choice((0, 1, 2, 3, 5)))
        parcel = parcel_of(*[(p, self.text(p)) for p in places])
        if self.random.random() < 0.2:
            at = self.random.randrange(len(parcel))
            change = self.random.choice(([], [48], [58], [10], [46], [parcel[at], parcel[at]]))
            parcel[at:at + 1] = change
        return parcel

    def call(self):
        """A call, and what asks the model for the same."""
        kind = self.random.choice(KINDS)
        p = self.place()
        text = self.text(p)
        if kind == "room":
            n = self.random.choice((-1, 0, 10, 30, 60, 200, 65536, 65536, 65537))
            return room(n), lambda model: model.room(n)
        if kind in LISTED:
            places = self.places()
            return LISTED[kind](*places), lambda model: model.listed(kind, places)
        if kind == "freed":
            roots = self.places()
            return freed(p, *roots), lambda model: model.listed("freed", [p], roots)
        if kind == "missing":
            goals, there = self.places(), self.places()
            return missing(goals, there), lambda model: model.listed("missing", goals, there)
        if kind == "read":
            parcel, rule = self.parcel(), self.rule()
            return read(parcel, rule), lambda model: model.read(parcel, rule)
        return {
            "add": (add(p, text), lambda model: model.add(p, text.encode())),
            "stage": (stage(p, text), lambda model: model.stage(p, text.encode())),
            "commit": (COMMIT, lambda model: model.commit()),
            "drop": (DROP, lambda model: model.drop()),
            "get": (get(p), lambda model: model.held(p, model.now)),
            "pinned": (pinned(p), lambda model: model.held(p, model.ever)),
            "counts": (COUNTS, lambda model: [len(model.now), model.load(), len(model.waiting), len(model.ever)]),
            "valid": (VALID, lambda model: [0] + sorted(model.now)),
            "refs": (refs(p), lambda model: model.refs(p)),
            "referrers": (referrers(p), lambda model: model.referrers(p)),
            "knot": (knot(p), lambda model: model.listed("knot", [p])),
            "tops": (TOPS, lambda model: model.tops()),
        }[kind]


class AsTheModel(unittest.TestCase):
    def test_lines(self):
        met = {}
        for seed in range(400):
            maker = Maker(seed)
            made = []
            spent = 0
            while len(made) < 60 and spent < 10000:
                made.append(maker.call())
                spent += len(made[-1][0])
            model = Model()
            expected = [ask(model) for call, ask in made]
            self.assertEqual(play(*[call for call, ask in made]), expected, f"seed {seed}")
            for (call, ask), answer in zip(made, expected):
                met[call[0], min(answer[0], 0)] = met.get((call[0], min(answer[0], 0)), 0) + 1
        # The lines are of use only if they meet what can be met.
        for kind, outcomes in ((0, (0, -6, -9)), (1, (0, -1, -2, -4, -5, -6)), (2, (0, -1, -2, -3)),
                               (3, (0, -4, -5, -6)),
                               (5, (0, -1, -7)), (6, (0, -1, -7)), (9, (0, -1, -7)), (10, (0, -1, -7)),
                               (11, (0, -1, -7, -9)), (12, (0, -1, -7, -9)), (13, (0, -1, -7)),
                               (14, (0, -1, -7, -9)), (15, (0,)), (16, (0, -1, -7, -8, -9)), (17, (0, -1, -7, -9)),
                               (18, (0, -1, -7, -9)), (19, (0, -1, -7, -9)), (20, (0, -1, -7, -9)),
                               (21, (0, -1, -7, -9)), (22, (0, -1, -3, -4, -5, -6, -10, -11))):
            for outcome in outcomes:
                self.assertGreater(met.get((kind, outcome), 0), 4, (kind, outcome))

    def test_webs_of_mentions(self):
        # Many places at once, with knots of all sizes that interleave, and then all that goes along the references.
        large = 0
        for seed in range(60):
            chance = random.Random(seed)
            places = chance.sample(range(1024), 24)
            texts = {p: "".join(f"@{q};" for q in chance.sample(places, chance.choice((0, 0, 1, 1, 1, 2))))
                     for p in places}
            few = chance.sample(places, 3)
            parcel = parcel_of(*texts.items())
            made = [(read(parcel), lambda model: model.read(parcel, [])), (TOPS, lambda model: model.tops())]
            made += [(knot(p), lambda model, p=p: model.listed("knot", [p])) for p in places]
            for kind in ("above", "order", "write", "missing", "freed", "take", "lose", "order", "sweep"):
                lists = {"missing": (few[:2], few[2:]), "freed": (few[:1], few[1:])}.get(kind, (few,))
                call = {"missing": missing, "freed": lambda one, roots: freed(*one, *roots)}.get(kind)
                line = call(*lists) if call else LISTED[kind](*lists[0])
                made.append((line, lambda model, kind=kind, lists=lists: model.listed(kind, *lists)))
                made.append((TOPS, lambda model: model.tops()))
            model = Model()
            expected = [ask(model) for call, ask in made]
            large += max(map(len, expected[2:26])) > 4
            self.assertEqual(play(*[call for call, ask in made]), expected, f"seed {seed}")
        self.assertGreater(large, 8)


if __name__ == "__main__":
    unittest.main()
