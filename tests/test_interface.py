"""The interface: the list handed in, the list given back, and the document's own example."""

import unittest

from tests.helper import (
    BROKEN, CLASH, COMMIT, COUNTS, DROP, HELD, TOPS, VALID, above, add, chain_of, closure, freed, get, knot, last, lose,
    missing, order, pinned, play, read, reads_of, referrers, refs, room, stage, sweep, take, told, write)
from wholekept.store import UnknownCall, answers

# Each call with its answer.
MANY = [
    (room(50), [0]), (add(5, "hi"), [1]), (stage(8, "@9;"), [1]), (stage(9, "@8;@5;"), [2]), (COMMIT, [0, 8, 9]),
    (get(8), [0, 64, 57, 59]), (pinned(9), [0, 64, 56, 59, 64, 53, 59]), (COUNTS, [3, 11, 0, 3]),
    (VALID, [0, 5, 8, 9]), (refs(9), [0, 5, 8]), (referrers(9), [0, 8]), (closure(8, 8), [0, 5, 8, 9]),
    (read("7:3:@6;\n6:0:\n.", (6, 60)), [0, 7, 60]), (stage(1, "left"), [1]), (DROP, [1]),
    (add(5, "other"), [-4]), (get(44), [-7]), (read("none", (1, 1)), [-10]), (closure(-1), [-1]),
    (above(5), [0, 5, 8, 9]), (knot(9), [0, 8, 9]), (order(7, 9), [0, 5, 8, 9, 60, 7]), (TOPS, [0, 7, 8, 9]),
    (freed(9, 5), [0, 8, 9]), (missing((8, 7), (60, 5)), [0, 8, 9, 7]), (write(60), [0, 54, 48, 58, 48, 58, 10, 46]),
    (take(8), [-8]), (take(7), [0, 7]), (write(*range(65)), [-9]), (sweep(8), [0, 60]), (lose(5), [0, 5, 8, 9]),
    (COUNTS, [0, 0, 0, 5]), (add(3, "@8;"), [-5]), (add(60, ""), [1]), (read("60:0:\n.", (60, 60, 60, 60)), [-11]),
    (read(".", (60, -60)), [-11]), (stage(3, "x"), [1]), (stage(3, "x"), [-3]), (add(3, "a" * 51), [-6]),
    (add(3, "a" * 4097), [-2])]
MANY_CALLS = [call for call, answer in MANY]
MANY_ANSWERS = [number for call, answer in MANY for number in [len(answer)] + answer]


def flat(calls):
    return [number for call in calls for number in call]


def refuse(*arguments, **keywords):
    raise AssertionError("the list handed in is changed")


class Guarded(list):
    """A list that can't be changed."""

    append = clear = extend = insert = pop = remove = reverse = sort = refuse
    __setitem__ = __delitem__ = __iadd__ = __imul__ = refuse


class Interface(unittest.TestCase):
    def test_numbers_one_behind_another(self):
        self.assertEqual(answers(flat(MANY_CALLS)), MANY_ANSWERS)

    def test_every_call_and_every_refusal_is_in_one_line(self):
        self.assertEqual(sorted({call[0] for call in MANY_CALLS}), list(range(23)))
        self.assertEqual({answer[0] for call, answer in MANY if answer[0] < 0}, set(range(-11, 0)))

    def test_written_out(self):
        self.assertEqual(answers([1, 5, 0, 12, 1, 5, 13, 5, 14, 1, 5, 15, 19, 5, 1, 5, 20, 1, 5, 0, 21, 0, 16, 1, 5,
                                  17, 0, 18, 0, 22, 1, 46, 2, 5, 6, 22, 1, 46, 0]),
                         [1, 1, 2, 0, 5, 2, 0, 5, 2, 0, 5, 2, 0, 5, 1, 0, 2, 0, 5, 2, 0, 46, 2, 0, 5, 1, 0, 1, 0, 1, 0,
                          1, 0])

    def test_no_call(self):
        for number in (-1, 23, 10 ** 18):
            self.assertRaises(UnknownCall, answers, [number])

    def test_one_call(self):
        self.assertEqual(answers([7]), [4, 0, 0, 0, 0])
        self.assertEqual(answers([3]), [1, 0])
        self.assertEqual(answers([5, 1024]), [1, -1])
        self.assertEqual(answers([15]), [1, 0])
        self.assertEqual(answers([17, 0]), [1, 0])
        self.assertEqual(answers([21, 0]), [2, 0, 46])

    def test_kinds(self):
        found = answers(flat(MANY_CALLS))
        self.assertIs(type(found), list)
        for number in found:
            self.assertIs(type(number), int)

    def test_what_is_handed_in_stays(self):
        line = flat(MANY_CALLS)
        kept = list(line)
        answers(line)
        self.assertEqual(line, kept)

    def test_what_is_handed_in_is_not_changed_for_a_while(self):
        self.assertEqual(answers(Guarded(flat(MANY_CALLS))), MANY_ANSWERS)

    def test_what_is_given_back_is_new(self):
        line = flat(MANY_CALLS)
        first = answers(line)
        first.append(77)
        first[0] = 78
        self.assertEqual(answers(line), MANY_ANSWERS)

    def test_nothing_is_kept_from_one_time_to_the_next(self):
        for unlike in ([room(0)], [add(5, "other")], [stage(8, "x")], [add(1, "a"), stage(2, "b"), COMMIT],
                       [add(5, "pin"), take(5)], [add(8, "pin"), sweep()], [add(9, "pin"), lose(9)], MANY_CALLS):
            answers(flat(unlike))
            self.assertEqual(answers(flat(MANY_CALLS)), MANY_ANSWERS)
            self.assertEqual(play(COUNTS, get(5), pinned(5), VALID, add(5, "new")),
                             [[0, 0, 0, 0], [-7], [-7], [0], [1]])

    def test_120_calls(self):
        found = play(*[add(p, f"@{max(p - 1, 0)};") for p in range(118)], closure(117), COUNTS)
        self.assertEqual(found[118], [0] + list(range(118)))
        self.assertEqual(found[119], [118, 10 * 3 + 1 * 3 + 90 * 4 + 17 * 5, 0, 118])


    def test_16000_numbers(self):
        before = reads_of(chain_of(range(1024)))
        calls = before + [get(5)] * 60 + [order(*[1023] * 64)]
        calls += [stage(9, "x" * (16000 - len(flat(calls)) - 3))]
        self.assertEqual(len(flat(calls)), 16000)
        self.assertEqual(play(*calls)[-3:], [told("@4;"), [0] + list(range(1024)), [1]])

    def test_long_chains_and_many_places(self):
        before = reads_of(chain_of(range(1023, -1, -1)))
        every, turned = list(range(1024)), list(range(1023, -1, -1))
        looks = [(closure(0), every), (above(1023), every), (knot(0), [0]), (order(0), turned), (TOPS, [0]),
                 (freed(0), every), (missing((0,), ()), turned), (missing((0,), (0,)), []), (sweep(0), [])]
        self.assertEqual(play(*before, *[call for call, answer in looks])[len(before):],
                         [[0] + answer for call, answer in looks])
        for call in (sweep(), lose(1023)):
            self.assertEqual(play(*before, call, VALID, COUNTS)[-3:], [[0] + every, [0], [0, 0, 0, 1024]])


class Example(unittest.TestCase):
    """The document's example, whole."""

    PARCEL = "5:2:hi\n8:3:@9;\n9:6:@8;@5;\n."

    def test_first_store(self):
        found = play(add(5, "hi"), stage(8, "@9;"), stage(9, "@8;@5;"), COMMIT, closure(8), knot(9), order(9),
                     add(2, "@9;"), order(2), TOPS, take(9), take(2), write(8), sweep(5), add(9, "@5;"))
        self.assertEqual(found, [[1], [1], [2], [0, 8, 9], [0, 5, 8, 9], [0, 8, 9], [0, 5, 8, 9], [1], [0, 5, 8, 9, 2],
                                 [0, 2], HELD, [0, 2], told(self.PARCEL), [0, 8, 9], CLASH])

    def test_other_store(self):
        found = play(read(self.PARCEL, (5, 6, 8, 0)), VALID, get(0), get(6), get(9))
        self.assertEqual(found, [[0, 0, 6, 9], [0, 0, 6, 9], told("@9;"), told("hi"), told("@0;@6;")])

    def test_mentions(self):
        self.assertEqual(last(add(17, ""), add(3, "@1@17;"), refs(3)), [0, 17])
        self.assertEqual(last(add(3, "@017;@;@17"), refs(3)), [0])
        self.assertEqual(last(add(3, "@17;")), BROKEN)


if __name__ == "__main__":
    unittest.main()
