"""Points 9 to 14, 16 and 20: valid, refs, referrers, closure, above, knot, tops, freed."""

import unittest

from tests.helper import (
    ABSENT, COMMIT, FAR, LIMIT, NO_PLACES, PLACE, TOPS, VALID, above, add, assert_list_is_looked_at, assert_refused,
    chain_of, closure, freed, knot, last, lose, play, reads_of, referrers, refs, stage, sweep, take)

# 8 and 9 mention one another, 9 also 5; 2 mentions 9; 7 mentions itself; 100 stands alone.
HOUSE = [add(5, "hi"), stage(8, "@9;"), stage(9, "@8;@5;@8;"), COMMIT, add(2, "@9;"), add(7, "@7;@100"),
         add(100, "none")]

# 1024 places, each mentioning the one before it: deeper than Python nests its calls.
CHAIN = reads_of(chain_of(range(1024)))


class Valid(unittest.TestCase):
    def test_new_store(self):
        self.assertEqual(play(VALID), [[0]])

    def test_in_order_of_size(self):
        self.assertEqual(last(*HOUSE, VALID), [0, 2, 5, 7, 8, 9, 100])

    def test_staged_is_not_valid(self):
        self.assertEqual(last(stage(4, "a"), VALID), [0])


class Refs(unittest.TestCase):
    def test_each_once_in_order_of_size(self):
        self.assertEqual(last(*HOUSE, refs(9)), [0, 5, 8])
        self.assertEqual(last(add(10, ""), add(9, ""), add(3, "@10;@9;@3;@10;"), refs(3)), [0, 3, 9, 10])

    def test_none_and_itself(self):
        self.assertEqual(last(*HOUSE, refs(5)), [0])
        self.assertEqual(last(*HOUSE, refs(7)), [0, 7])

    def test_edges_of_places(self):
        self.assertEqual(play(add(0, ""), add(1023, "@0;@1023;"), refs(1023), refs(0))[2:], [[0, 0, 1023], [0]])

    def test_refusals(self):
        for p in NO_PLACES:
            assert_refused(self, HOUSE, refs(p), PLACE, (5, 9))
        assert_refused(self, HOUSE + [stage(6, "")], refs(6), ABSENT, (5, 6))


class Referrers(unittest.TestCase):
    def test_others_that_mention_it(self):
        self.assertEqual(last(*HOUSE, referrers(9)), [0, 2, 8])
        self.assertEqual(last(*HOUSE, referrers(5)), [0, 9])
        self.assertEqual(last(*HOUSE, referrers(2)), [0])

    def test_not_itself(self):
        self.assertEqual(last(*HOUSE, referrers(7)), [0])
        self.assertEqual(last(*HOUSE, add(3, "@7;"), referrers(7)), [0, 3])

    def test_in_order_of_size(self):
        found = last(add(5, ""), add(900, "@5;"), add(3, "@5;"), add(40, "@5;"), referrers(5))
        self.assertEqual(found, [0, 3, 40, 900])

    def test_staged_texts_mention_nothing_yet(self):
        self.assertEqual(last(add(5, ""), stage(6, "@5;"), referrers(5)), [0])

    def test_refusals(self):
        for p in NO_PLACES:
            assert_refused(self, HOUSE, referrers(p), PLACE, (5, 9))
        assert_refused(self, HOUSE + [stage(6, "")], referrers(6), ABSENT, (5, 6))


class Closure(unittest.TestCase):
    def test_of_nothing(self):
        self.assertEqual(last(*HOUSE, closure()), [0])

    def test_as_far_as_it_goes(self):
        self.assertEqual(last(*HOUSE, closure(2)), [0, 2, 5, 8, 9])
        self.assertEqual(last(*HOUSE, closure(8)), [0, 5, 8, 9])
        self.assertEqual(last(*HOUSE, closure(5)), [0, 5])
        self.assertEqual(last(*HOUSE, closure(7)), [0, 7])

    def test_of_several(self):
        self.assertEqual(last(*HOUSE, closure(100, 8, 7)), [0, 5, 7, 8, 9, 100])

    def test_a_goal_may_stand_several_times(self):
        self.assertEqual(last(*HOUSE, closure(5, 7, 5, 5)), [0, 5, 7])

    def test_lists_of_64_and_65(self):
        self.assertEqual(last(*HOUSE, closure(*[5] * 64)), [0, 5])
        assert_refused(self, HOUSE, closure(*[5] * 65), LIMIT, (5, 9))
        self.assertEqual(last(*HOUSE, closure(*[5] * 1000)), LIMIT)

    def test_place_and_absent(self):
        for p in NO_PLACES:
            assert_refused(self, HOUSE, closure(5, p), PLACE, (5, 9))
        assert_refused(self, HOUSE + [stage(6, "")], closure(5, 6), ABSENT, (5, 6))

    def test_order_of_refusals(self):
        self.assertEqual(last(*HOUSE, closure(*[3] * 64 + [FAR])), LIMIT)
        self.assertEqual(last(*HOUSE, closure(3, 5, -1)), PLACE)
        self.assertEqual(last(*HOUSE, closure(1024, 3)), PLACE)
        self.assertEqual(last(*HOUSE, closure(5, 3)), ABSENT)

    def test_a_long_chain(self):
        found = play(*CHAIN, closure(1023), closure(500))
        self.assertEqual(found[0][:3], [0, 0, 1])
        self.assertEqual(found[-2], [0] + list(range(1024)))
        self.assertEqual(found[-1], [0] + list(range(501)))


class Above(unittest.TestCase):
    def test_of_nothing(self):
        self.assertEqual(last(*HOUSE, above()), [0])
        self.assertEqual(play(above()), [[0]])

    def test_as_far_as_it_goes(self):
        self.assertEqual(last(*HOUSE, above(5)), [0, 2, 5, 8, 9])
        self.assertEqual(last(*HOUSE, above(8)), [0, 2, 8, 9])
        self.assertEqual(last(*HOUSE, above(2)), [0, 2])
        self.assertEqual(last(*HOUSE, above(7)), [0, 7])
        self.assertEqual(last(*HOUSE, above(100)), [0, 100])

    def test_of_several(self):
        self.assertEqual(last(*HOUSE, above(100, 9, 7)), [0, 2, 7, 8, 9, 100])
        self.assertEqual(last(*HOUSE, above(9, 5, 9, 9)), [0, 2, 5, 8, 9])

    def test_staged_and_lost_texts_reach_nothing(self):
        self.assertEqual(last(add(5, ""), stage(6, "@5;"), above(5)), [0, 5])
        for call in (take(6), sweep(5), lose(6)):
            self.assertEqual(last(add(5, ""), add(6, "@5;"), call, above(5)), [0, 5])

    def test_refusals(self):
        assert_list_is_looked_at(self, HOUSE + [stage(6, "")], above, 5, 6)
        assert_list_is_looked_at(self, HOUSE + [take(2)], above, 5, 2)

    def test_a_long_chain(self):
        self.assertEqual(last(*CHAIN, above(0)), [0] + list(range(1024)))
        self.assertEqual(last(*CHAIN, above(500, 600)), [0] + list(range(500, 1024)))


class Knot(unittest.TestCase):
    def test_of_one_place(self):
        self.assertEqual(last(*HOUSE, knot(5)), [0, 5])
        self.assertEqual(last(*HOUSE, knot(2)), [0, 2])
        self.assertEqual(last(*HOUSE, knot(7)), [0, 7])

    def test_of_two_places(self):
        self.assertEqual(last(*HOUSE, knot(8)), [0, 8, 9])
        self.assertEqual(last(*HOUSE, knot(9)), [0, 8, 9])

    def test_of_many_places(self):
        before = [stage(p, f"@{(p * 7 + 3) % 64};") for p in range(64)]
        texts = {p: (p * 7 + 3) % 64 for p in range(64)}
        circle, at = [], 1
        while at not in circle:
            circle.append(at)
            at = texts[at]
        self.assertGreater(len(circle), 8)
        self.assertEqual(last(*before, COMMIT, knot(1)), [0] + sorted(circle))

    def test_circles_that_share_a_place(self):
        found = play(stage(4, "@1;@9;"), stage(1, "@2;"), stage(2, "@4;"), stage(9, "@4;@3;"), stage(3, ""), COMMIT,
                     add(6, "@9;"), knot(9), knot(1), knot(3), knot(6))
        self.assertEqual(found[-4:], [[0, 1, 2, 4, 9], [0, 1, 2, 4, 9], [0, 3], [0, 6]])

    def test_two_knots_one_above_the_other(self):
        before = [stage(1, "@6;"), stage(6, "@1;@3;"), stage(3, "@8;"), stage(8, "@3;"), COMMIT]
        self.assertEqual(play(*before, *[knot(p) for p in (1, 3, 6, 8)])[-4:],
                         [[0, 1, 6], [0, 3, 8], [0, 1, 6], [0, 3, 8]])

    def test_a_large_circle(self):
        places = list(range(600))
        pairs = [(p, f"@{(p + 1) % 600};") for p in places]
        calls = reads_of(pairs)
        self.assertEqual(len(calls), 1)
        found = play(*calls, add(1000, "@44;"), knot(300), knot(1000), TOPS)
        self.assertEqual(found[-3:], [[0] + places, [0, 1000], [0, 1000]])

    def test_a_long_chain(self):
        self.assertEqual(play(*CHAIN, knot(1023), knot(0), knot(512))[-3:], [[0, 1023], [0, 0], [0, 512]])

    def test_refusals(self):
        for p in NO_PLACES:
            assert_refused(self, HOUSE, knot(p), PLACE, (5, 9))
        assert_refused(self, HOUSE + [stage(6, "")], knot(6), ABSENT, (5, 6))
        assert_refused(self, HOUSE + [take(2)], knot(2), ABSENT, (2, 5))


class Tops(unittest.TestCase):
    def test_new_store(self):
        self.assertEqual(play(TOPS), [[0]])

    def test_what_mentions_itself_is_a_top(self):
        self.assertEqual(last(*HOUSE, TOPS), [0, 2, 7, 100])

    def test_all_places_of_a_knot(self):
        before = [add(5, "hi"), stage(8, "@9;"), stage(9, "@8;@5;"), COMMIT]
        self.assertEqual(last(*before, TOPS), [0, 8, 9])
        self.assertEqual(last(*before, add(2, "@9;"), TOPS), [0, 2])
        self.assertEqual(last(*before, add(2, "@9;"), take(2), TOPS), [0, 8, 9])

    def test_a_knot_is_no_top_if_one_of_its_places_is_mentioned(self):
        before = [stage(1, "@6;"), stage(6, "@1;@3;"), stage(3, "@8;"), stage(8, "@3;"), COMMIT]
        self.assertEqual(last(*before, TOPS), [0, 1, 6])
        self.assertEqual(last(*before, stage(0, "@9;"), stage(9, "@0;@6;"), COMMIT, TOPS), [0, 0, 9])

    def test_knots_that_interleave_are_told_in_order_of_size(self):
        before = [stage(1, "@9;"), stage(9, "@1;"), stage(2, "@5;"), stage(5, "@2;"), add(3, ""), COMMIT]
        self.assertEqual(last(*before, TOPS), [0, 1, 2, 3, 5, 9])

    def test_staged_and_lost_texts_mention_nothing(self):
        self.assertEqual(last(add(5, ""), stage(6, "@5;"), TOPS), [0, 5])
        for call in (take(6), sweep(5), lose(6)):
            self.assertEqual(play(add(5, ""), add(6, "@5;"), TOPS, call, TOPS)[2:], [[0, 6], [0, 6], [0, 5]])

    def test_many_places(self):
        self.assertEqual(last(*CHAIN, TOPS), [0, 1023])
        calls = reads_of([(p, "") for p in range(1024)])
        self.assertEqual(last(*calls, TOPS), [0] + list(range(1024)))


class Freed(unittest.TestCase):
    def test_without_roots(self):
        self.assertEqual(last(*HOUSE, freed(2)), [0, 2, 5, 8, 9])
        self.assertEqual(last(*HOUSE, freed(7)), [0, 7])

    def test_what_the_roots_need_is_left_out(self):
        self.assertEqual(last(*HOUSE, freed(2, 5)), [0, 2, 8, 9])
        self.assertEqual(last(*HOUSE, freed(2, 8)), [0, 2])
        self.assertEqual(last(*HOUSE, freed(8, 9)), [0])
        self.assertEqual(last(*HOUSE, freed(8, 2)), [0])
        self.assertEqual(last(*HOUSE, freed(2, 100, 7)), [0, 2, 5, 8, 9])
        self.assertEqual(last(*HOUSE, freed(5, 5, 5)), [0])
        self.assertEqual(last(*HOUSE, freed(2, 7, 5, 7, 5)), [0, 2, 8, 9])

    def test_changes_nothing(self):
        self.assertEqual(play(*HOUSE, stage(6, ""), freed(2, 5), VALID, COMMIT)[-3:],
                         [[0, 2, 8, 9], [0, 2, 5, 7, 8, 9, 100], [0, 6]])

    def test_a_long_chain(self):
        self.assertEqual(last(*CHAIN, freed(1000, 400, 3)), [0] + list(range(401, 1001)))

    def test_refusals_of_the_place(self):
        for p in NO_PLACES:
            assert_refused(self, HOUSE, freed(p, 5), PLACE, (5, 9))
        assert_refused(self, HOUSE + [stage(6, "")], freed(6, 5), ABSENT, (5, 6))

    def test_refusals_of_the_list(self):
        assert_list_is_looked_at(self, HOUSE + [stage(6, "")], lambda *roots: freed(2, *roots), 5, 6)
        assert_list_is_looked_at(self, HOUSE + [take(2)], lambda *roots: freed(9, *roots), 5, 2)

    def test_the_place_is_looked_at_before_the_list(self):
        self.assertEqual(last(*HOUSE, freed(-1, *[6] * 65)), PLACE)
        self.assertEqual(last(*HOUSE, freed(6, *[6] * 65)), ABSENT)
        self.assertEqual(last(*HOUSE, freed(6, 5, -1)), ABSENT)
        self.assertEqual(last(*HOUSE, freed(1024, 6)), PLACE)
        self.assertEqual(last(*HOUSE, freed(5, *[6] * 65)), LIMIT)


if __name__ == "__main__":
    unittest.main()
