"""Points 9 to 12: valid, refs, referrers, closure."""

import unittest

from tests.helper import (
    ABSENT, COMMIT, FAR, LIMIT, NO_PLACES, PLACE, VALID, add, assert_refused, closure, last, play, referrers, refs,
    stage)

# 8 and 9 mention one another, 9 also 5; 2 mentions 9; 7 mentions itself; 100 stands alone.
HOUSE = [add(5, "hi"), stage(8, "@9;"), stage(9, "@8;@5;@8;"), COMMIT, add(2, "@9;"), add(7, "@7;@100"),
         add(100, "none")]


class Valid(unittest.TestCase):
    def test_new_store(self):
        self.assertEqual(play(VALID), [[0]])

    def test_in_order_of_size(self):
        self.assertEqual(last(*HOUSE, VALID), [0, 2, 5, 7, 8, 9, 100])

    def test_staged_is_not_valid(self):
        self.assertEqual(last(stage(4, "a"), VALID), [0])


class Refs(unittest.TestCase):
    def test_each_once_in_order_of_size(self):
        self.assertEqual(last(*HOUSE, refs(9)), [0, 5, 8])
        self.assertEqual(last(add(10, ""), add(9, ""), add(3, "@10;@9;@3;@10;"), refs(3)), [0, 3, 9, 10])

    def test_none_and_itself(self):
        self.assertEqual(last(*HOUSE, refs(5)), [0])
        self.assertEqual(last(*HOUSE, refs(7)), [0, 7])

    def test_edges_of_places(self):
        self.assertEqual(play(add(0, ""), add(1023, "@0;@1023;"), refs(1023), refs(0))[2:], [[0, 0, 1023], [0]])

    def test_refusals(self):
        for p in NO_PLACES:
            assert_refused(self, HOUSE, refs(p), PLACE, (5, 9))
        assert_refused(self, HOUSE + [stage(6, "")], refs(6), ABSENT, (5, 6))


class Referrers(unittest.TestCase):
    def test_others_that_mention_it(self):
        self.assertEqual(last(*HOUSE, referrers(9)), [0, 2, 8])
        self.assertEqual(last(*HOUSE, referrers(5)), [0, 9])
        self.assertEqual(last(*HOUSE, referrers(2)), [0])

    def test_not_itself(self):
        self.assertEqual(last(*HOUSE, referrers(7)), [0])
        self.assertEqual(last(*HOUSE, add(3, "@7;"), referrers(7)), [0, 3])

    def test_in_order_of_size(self):
        found = last(add(5, ""), add(900, "@5;"), add(3, "@5;"), add(40, "@5;"), referrers(5))
        self.assertEqual(found, [0, 3, 40, 900])

    def test_staged_texts_mention_nothing_yet(self):
        self.assertEqual(last(add(5, ""), stage(6, "@5;"), referrers(5)), [0])

    def test_refusals(self):
        for p in NO_PLACES:
            assert_refused(self, HOUSE, referrers(p), PLACE, (5, 9))
        assert_refused(self, HOUSE + [stage(6, "")], referrers(6), ABSENT, (5, 6))


class Closure(unittest.TestCase):
    def test_of_nothing(self):
        self.assertEqual(last(*HOUSE, closure()), [0])

    def test_as_far_as_it_goes(self):
        self.assertEqual(last(*HOUSE, closure(2)), [0, 2, 5, 8, 9])
        self.assertEqual(last(*HOUSE, closure(8)), [0, 5, 8, 9])
        self.assertEqual(last(*HOUSE, closure(5)), [0, 5])
        self.assertEqual(last(*HOUSE, closure(7)), [0, 7])

    def test_of_several(self):
        self.assertEqual(last(*HOUSE, closure(100, 8, 7)), [0, 5, 7, 8, 9, 100])

    def test_a_goal_may_stand_several_times(self):
        self.assertEqual(last(*HOUSE, closure(5, 7, 5, 5)), [0, 5, 7])

    def test_lists_of_64_and_65(self):
        self.assertEqual(last(*HOUSE, closure(*[5] * 64)), [0, 5])
        assert_refused(self, HOUSE, closure(*[5] * 65), LIMIT, (5, 9))
        self.assertEqual(last(*HOUSE, closure(*[5] * 1000)), LIMIT)

    def test_place_and_absent(self):
        for p in NO_PLACES:
            assert_refused(self, HOUSE, closure(5, p), PLACE, (5, 9))
        assert_refused(self, HOUSE + [stage(6, "")], closure(5, 6), ABSENT, (5, 6))

    def test_order_of_refusals(self):
        self.assertEqual(last(*HOUSE, closure(*[3] * 64 + [FAR])), LIMIT)
        self.assertEqual(last(*HOUSE, closure(3, 5, -1)), PLACE)
        self.assertEqual(last(*HOUSE, closure(1024, 3)), PLACE)
        self.assertEqual(last(*HOUSE, closure(5, 3)), ABSENT)

    def test_a_long_chain(self):
        # 1024 places, each mentioning the one before it: deeper than Python nests its calls.
        lines = [f"{p}:{len(text)}:{text}\n" for p, text in
                 [(p, f"@{p - 1};" if p else "") for p in range(1024)]]
        calls = []
        for start in range(0, 1024, 400):
            parcel = "".join(lines[start:start + 400]) + "."
            calls.append([22, len(parcel)] + list(parcel.encode()) + [0])
        found = play(*calls, closure(1023), closure(500))
        self.assertEqual(found[0], [0] + list(range(400)))
        self.assertEqual(found[-2], [0] + list(range(1024)))
        self.assertEqual(found[-1], [0] + list(range(501)))


if __name__ == "__main__":
    unittest.main()
