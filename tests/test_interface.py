"""The interface: the list handed in, the list given back, and the document's own example."""

import unittest

from tests.helper import (
    BROKEN, CLASH, COMMIT, COUNTS, DROP, VALID, add, closure, get, last, pinned, play, read, referrers, refs, room,
    stage, told)
from wholekept.store import answers

MANY_CALLS = [room(50), add(5, "hi"), stage(8, "@9;"), stage(9, "@8;@5;"), COMMIT, get(8), pinned(9), COUNTS, VALID,
              refs(9), referrers(9), closure(8, 8), read("7:3:@6;\n6:0:\n.", (6, 60)), stage(1, "left"), DROP,
              add(5, "other"), get(44), read("none", (1, 1)), closure(-1)]
MANY_ANSWERS = [1, 0, 1, 1, 1, 1, 1, 2, 3, 0, 8, 9, 4, 0, 64, 57, 59, 7, 0, 64, 56, 59, 64, 53, 59, 4, 3, 11, 0, 3,
                4, 0, 5, 8, 9, 3, 0, 5, 8, 2, 0, 8, 4, 0, 5, 8, 9, 3, 0, 7, 60, 1, 1, 1, 1, 1, -4, 1, -7, 1, -10, 1, -1]


def flat(calls):
    return [number for call in calls for number in call]


def refuse(*arguments, **keywords):
    raise AssertionError("the list handed in is changed")


class Guarded(list):
    """A list that can't be changed."""

    append = clear = extend = insert = pop = remove = reverse = sort = refuse
    __setitem__ = __delitem__ = __iadd__ = __imul__ = refuse


class Interface(unittest.TestCase):
    def test_numbers_one_behind_another(self):
        self.assertEqual(answers(flat(MANY_CALLS)), MANY_ANSWERS)

    def test_one_call(self):
        self.assertEqual(answers([7]), [4, 0, 0, 0, 0])
        self.assertEqual(answers([3]), [1, 0])
        self.assertEqual(answers([5, 1024]), [1, -1])

    def test_kinds(self):
        found = answers(flat(MANY_CALLS))
        self.assertIs(type(found), list)
        for number in found:
            self.assertIs(type(number), int)

    def test_what_is_handed_in_stays(self):
        line = flat(MANY_CALLS)
        kept = list(line)
        answers(line)
        self.assertEqual(line, kept)

    def test_what_is_handed_in_is_not_changed_for_a_while(self):
        self.assertEqual(answers(Guarded(flat(MANY_CALLS))), MANY_ANSWERS)

    def test_what_is_given_back_is_new(self):
        line = flat(MANY_CALLS)
        first = answers(line)
        first.append(77)
        first[0] = 78
        self.assertEqual(answers(line), MANY_ANSWERS)

    def test_nothing_is_kept_from_one_time_to_the_next(self):
        for unlike in ([room(0)], [add(5, "other")], [stage(8, "x")], [add(1, "a"), stage(2, "b"), COMMIT]):
            answers(flat(unlike))
            self.assertEqual(answers(flat(MANY_CALLS)), MANY_ANSWERS)
            self.assertEqual(play(COUNTS, get(5), pinned(5), VALID, add(5, "new")),
                             [[0, 0, 0, 0], [-7], [-7], [0], [1]])

    def test_120_calls(self):
        found = play(*[add(p, f"@{max(p - 1, 0)};") for p in range(118)], closure(117), COUNTS)
        self.assertEqual(found[118], [0] + list(range(118)))
        self.assertEqual(found[119], [118, 10 * 3 + 1 * 3 + 90 * 4 + 17 * 5, 0, 118])


class Example(unittest.TestCase):
    """The document's example, as far as these calls play it."""

    def test_first_store(self):
        found = play(add(5, "hi"), stage(8, "@9;"), stage(9, "@8;@5;"), COMMIT, closure(8), add(2, "@9;"),
                     add(9, "@5;"))
        self.assertEqual(found, [[1], [1], [2], [0, 8, 9], [0, 5, 8, 9], [1], CLASH])

    def test_other_store(self):
        found = play(read("5:2:hi\n8:3:@9;\n9:6:@8;@5;\n.", (5, 6, 8, 0)), VALID, get(0), get(6), get(9))
        self.assertEqual(found, [[0, 0, 6, 9], [0, 0, 6, 9], told("@9;"), told("hi"), told("@0;@6;")])

    def test_mentions(self):
        self.assertEqual(last(add(17, ""), add(3, "@1@17;"), refs(3)), [0, 17])
        self.assertEqual(last(add(3, "@017;@;@17"), refs(3)), [0])
        self.assertEqual(last(add(3, "@17;")), BROKEN)


if __name__ == "__main__":
    unittest.main()
