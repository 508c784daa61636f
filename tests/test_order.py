"""Points 15 and 21: order and missing."""

import unittest

from tests.helper import (
    ABSENT, COMMIT, LIMIT, PLACE, VALID, add, assert_list_is_looked_at, chain_of, last, missing, order, play, reads_of,
    stage, take)

# 8 and 9 mention one another, 9 also 5; 2 mentions 9; 7 mentions itself; 100 stands alone.
HOUSE = [add(5, "hi"), stage(8, "@9;"), stage(9, "@8;@5;@8;"), COMMIT, add(2, "@9;"), add(7, "@7;@100"),
         add(100, "none")]


def together(*pairs):
    """Calls that bring these texts as one batch."""
    return [stage(p, text) for p, text in pairs] + [COMMIT]


class Order(unittest.TestCase):
    def test_of_nothing(self):
        self.assertEqual(play(order()), [[0]])
        self.assertEqual(last(*HOUSE, order()), [0])

    def test_of_one_place(self):
        self.assertEqual(last(*HOUSE, order(5)), [0, 5])
        self.assertEqual(last(*HOUSE, order(7)), [0, 7])

    def test_nothing_comes_before_what_it_needs(self):
        self.assertEqual(last(*HOUSE, order(9)), [0, 5, 8, 9])
        self.assertEqual(last(*HOUSE, order(2)), [0, 5, 8, 9, 2])

    def test_the_goals_own_order_is_of_no_weight(self):
        for goals in ((2, 100, 7), (100, 7, 2), (7, 2, 100, 2, 7, 5)):
            self.assertEqual(last(*HOUSE, order(*goals)), [0, 5, 7, 8, 9, 2, 100])

    def test_places_that_need_nothing_come_by_size(self):
        before = together((900, ""), (3, ""), (40, ""), (0, ""))
        self.assertEqual(last(*before, order(40, 900, 0, 3)), [0, 0, 3, 40, 900])

    def test_the_smallest_of_all_that_are_free(self):
        # A walk from 1 that goes deeper first would end 9, 3, 5, 1.
        before = together((9, ""), (5, ""), (3, "@9;"), (1, "@5;@3;"))
        self.assertEqual(last(*before, order(1)), [0, 5, 9, 3, 1])

    def test_what_becomes_free_may_come_before_what_was_free_longer(self):
        before = together((2, ""), (900, ""), (1, "@900;"), (950, ""), (0, "@1;"))
        self.assertEqual(last(*before, order(0, 2, 950)), [0, 2, 900, 1, 0, 950])

    def test_knots_that_interleave_by_size(self):
        before = together((1, "@9;"), (9, "@1;"), (2, "@5;"), (5, "@2;"), (3, ""))
        self.assertEqual(last(*before, order(1, 2, 3)), [0, 1, 9, 2, 5, 3])
        self.assertEqual(last(*before, order(5, 3)), [0, 2, 5, 3])

    def test_a_knot_is_placed_by_its_smallest_place(self):
        before = together((4, "@1000;"), (1000, "@4;"), (5, ""), (6, "@7;"), (7, "@6;"))
        self.assertEqual(last(*before, order(7, 5, 1000)), [0, 4, 1000, 5, 6, 7])

    def test_a_knot_that_is_free_only_behind_one_with_larger_places(self):
        before = together((1, "@3;"), (3, "@1;@20;"), (20, "@30;"), (30, "@20;"), (2, ""), (25, ""))
        self.assertEqual(last(*before, order(1, 2, 25)), [0, 2, 20, 30, 1, 3, 25])

    def test_a_knot_waits_for_what_any_of_its_places_needs(self):
        before = together((1, "@2;@8;"), (2, "@1;@6;@7;"), (6, ""), (7, ""), (8, "@6;"), (5, "@1;"))
        self.assertEqual(last(*before, order(5)), [0, 6, 7, 8, 1, 2, 5])

    def test_a_place_that_is_mentioned_often(self):
        before = together((9, ""), (1, "@9;@9;"), (2, "@1;@9;@1;"), (3, "@2;@1;@9;@3;"))
        self.assertEqual(last(*before, order(3)), [0, 9, 1, 2, 3])

    def test_what_is_not_in_the_closure_is_left_out(self):
        before = together((1, ""), (2, "@1;"), (3, "@1;"))
        self.assertEqual(last(*before, order(3)), [0, 1, 3])

    def test_long_chains(self):
        down = reads_of(chain_of(range(1024)))
        self.assertEqual(last(*down, order(1023)), [0] + list(range(1024)))
        up = reads_of(chain_of(range(1023, -1, -1)))
        self.assertEqual(last(*up, order(0)), [0] + list(range(1023, -1, -1)))

    def test_a_large_circle(self):
        calls = reads_of([(p, f"@{(p + 599) % 600};") for p in range(600)])
        self.assertEqual(last(*calls, add(1000, ""), order(1000, 300)), [0] + list(range(600)) + [1000])

    def test_many_places(self):
        # All the others mention the largest place, so that they become free at once.
        calls = reads_of([(1023, "")] + [(p, "@1023;") for p in range(1000)] + [(1022, "")])
        self.assertEqual(last(*calls, order(*range(960, 1000), 1022)), [0, 1022, 1023] + list(range(960, 1000)))

    def test_changes_nothing(self):
        self.assertEqual(play(*HOUSE, stage(6, ""), order(2), VALID, COMMIT)[-2:], [[0, 2, 5, 7, 8, 9, 100], [0, 6]])

    def test_refusals(self):
        assert_list_is_looked_at(self, HOUSE + [stage(6, "")], order, 2, 6)
        assert_list_is_looked_at(self, HOUSE + [take(2)], order, 9, 2)


class Missing(unittest.TestCase):
    def test_of_nothing(self):
        self.assertEqual(play(missing((), ())), [[0]])
        self.assertEqual(last(*HOUSE, missing((), (2,))), [0])

    def test_without_what_is_there(self):
        self.assertEqual(last(*HOUSE, missing((2,), ())), [0, 5, 8, 9, 2])
        self.assertEqual(last(*HOUSE, missing((2,), (5,))), [0, 8, 9, 2])
        self.assertEqual(last(*HOUSE, missing((2,), (100, 7))), [0, 5, 8, 9, 2])
        self.assertEqual(last(*HOUSE, missing((2, 2, 7), (5, 5, 7))), [0, 8, 9, 2])

    def test_what_is_there_is_there_whole(self):
        self.assertEqual(last(*HOUSE, missing((2,), (8,))), [0, 2])
        self.assertEqual(last(*HOUSE, missing((8, 100), (2,))), [0, 100])
        self.assertEqual(last(*HOUSE, missing((8,), (9,))), [0])

    def test_the_order_is_that_of_the_goals_closure(self):
        # With 9 out of the way 1 would be free before 5, but the order is made with 9 in it.
        before = together((9, ""), (5, ""), (1, "@9;"))
        self.assertEqual(last(*before, missing((1, 5), (9,))), [0, 5, 1])

    def test_long_chain(self):
        up = reads_of(chain_of(range(1023, -1, -1)))
        self.assertEqual(last(*up, missing((0,), (700, 800))), [0] + list(range(699, -1, -1)))

    def test_refusals(self):
        before = HOUSE + [stage(6, "")]
        assert_list_is_looked_at(self, before, lambda *goals: missing(goals, (5,)), 2, 6)
        assert_list_is_looked_at(self, before, lambda *there: missing((5,), there), 2, 6)
        assert_list_is_looked_at(self, HOUSE + [take(2)], lambda *there: missing((5,), there), 9, 2)

    def test_goals_are_looked_at_before_there(self):
        self.assertEqual(last(*HOUSE, missing((6,), [5] * 65)), ABSENT)
        self.assertEqual(last(*HOUSE, missing((6,), (-1,))), ABSENT)
        self.assertEqual(last(*HOUSE, missing((-1,), [5] * 65)), PLACE)
        self.assertEqual(last(*HOUSE, missing((1024,), (6,))), PLACE)
        self.assertEqual(last(*HOUSE, missing([5] * 65, (6,))), LIMIT)
        self.assertEqual(last(*HOUSE, missing((5,), [6] * 65)), LIMIT)
        self.assertEqual(last(*HOUSE, missing((5,), (6, 1024))), PLACE)

    def test_each_list_has_its_own_limit(self):
        self.assertEqual(last(*HOUSE, missing([5, 7] * 32, [7, 100] * 32)), [0, 5])


if __name__ == "__main__":
    unittest.main()
