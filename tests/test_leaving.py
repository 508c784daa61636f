"""Points 17 to 19: take, sweep and lose."""

import unittest

from tests.helper import (
    ABSENT, CLASH, COMMIT, COUNTS, DROP, HELD, LIMIT, PLACE, VALID, add, assert_list_is_looked_at, assert_refused,
    chain_of, closure, get, last, lose, order, pinned, play, read, reads_of, referrers, refs, room, stage, sweep, take,
    told, write)

# 8 and 9 mention one another, 9 also 5; 2 mentions 9; 7 mentions itself; 100 stands alone.
HOUSE = [add(5, "hi"), stage(8, "@9;"), stage(9, "@8;@5;@8;"), COMMIT, add(2, "@9;"), add(7, "@7;@100"),
         add(100, "none")]
PLACES = (2, 5, 8, 9)


class Take(unittest.TestCase):
    def test_of_nothing(self):
        self.assertEqual(play(take(), COUNTS), [[0], [0, 0, 0, 0]])
        self.assertEqual(play(*HOUSE, take(), VALID)[-2:], [[0], [0, 2, 5, 7, 8, 9, 100]])

    def test_what_nothing_mentions(self):
        self.assertEqual(play(*HOUSE, take(2), VALID, get(2), pinned(2))[-4:],
                         [[0, 2], [0, 5, 7, 8, 9, 100], ABSENT, told("@9;")])

    def test_what_mentions_itself(self):
        self.assertEqual(play(*HOUSE, take(7), VALID)[-2:], [[0, 7], [0, 2, 5, 8, 9, 100]])

    def test_held(self):
        for places in ((9,), (8,), (8, 9), (5,), (5, 2), (2, 9), (2, 8), (2, 5, 9), (100, 5), (5, 8, 9)):
            assert_refused(self, HOUSE, take(*places), HELD, PLACES)

    def test_together_with_all_that_mention_them(self):
        self.assertEqual(play(*HOUSE, take(9, 2, 8), VALID)[-2:], [[0, 2, 8, 9], [0, 5, 7, 100]])
        self.assertEqual(last(*HOUSE, take(100, 9, 5, 2, 8)), [0, 2, 5, 8, 9, 100])

    def test_a_knot_as_a_whole_and_in_part(self):
        before = HOUSE + [take(2)]
        assert_refused(self, before, take(8), HELD, PLACES)
        assert_refused(self, before, take(9), HELD, PLACES)
        self.assertEqual(last(*before, take(9, 8)), [0, 8, 9])

    def test_what_is_lost_holds_nothing_any_more(self):
        self.assertEqual(play(*HOUSE, take(2), take(8, 9), take(5))[-3:], [[0, 2], [0, 8, 9], [0, 5]])

    def test_what_is_staged_holds_nothing(self):
        found = play(add(5, "hi"), stage(6, "@5;"), take(5), COUNTS, COMMIT)
        self.assertEqual(found[2:], [[0, 5], [0, 0, 1, 1], [-5]])

    def test_a_place_may_stand_several_times(self):
        self.assertEqual(last(*HOUSE, take(100, 2, 100, 2, 100)), [0, 2, 100])
        self.assertEqual(last(*HOUSE, take(*[100] * 64)), [0, 100])
        self.assertEqual(last(*HOUSE, take(*[100] * 65)), LIMIT)

    def test_64_places(self):
        calls = reads_of(chain_of(range(64)))
        self.assertEqual(play(*calls, take(*reversed(range(64))), VALID)[-2:], [[0] + list(range(64)), [0]])
        assert_refused(self, calls, take(*range(63)), HELD, (0, 62, 63))
        self.assertEqual(last(*calls, take(*range(1, 64))), [0] + list(range(1, 64)))

    def test_makes_room(self):
        self.assertEqual(play(room(3), add(1, "abc"), take(1), add(2, "def"), add(1, "abc"))[2:],
                         [[0, 1], [1], [-6]])

    def test_refusals(self):
        assert_list_is_looked_at(self, HOUSE + [stage(6, "")], take, 100, 6)
        assert_list_is_looked_at(self, HOUSE + [take(2)], take, 100, 2)

    def test_held_is_looked_at_last(self):
        self.assertEqual(last(*HOUSE, take(*[9] * 65)), LIMIT)
        self.assertEqual(last(*HOUSE, take(9, -1)), PLACE)
        self.assertEqual(last(*HOUSE, take(9, 6)), ABSENT)
        self.assertEqual(last(*HOUSE, take(*[9] * 64)), HELD)

    def test_again_is_absent(self):
        self.assertEqual(last(*HOUSE, take(2), take(2)), ABSENT)


class Sweep(unittest.TestCase):
    def test_no_roots(self):
        self.assertEqual(play(sweep()), [[0]])
        self.assertEqual(play(*HOUSE, sweep(), VALID, COUNTS, sweep())[-4:],
                         [[0, 2, 5, 7, 8, 9, 100], [0], [0, 0, 0, 6], [0]])

    def test_what_the_roots_need_stays(self):
        self.assertEqual(play(*HOUSE, sweep(8), VALID)[-2:], [[0, 2, 7, 100], [0, 5, 8, 9]])
        self.assertEqual(play(*HOUSE, sweep(5), VALID)[-2:], [[0, 2, 7, 8, 9, 100], [0, 5]])
        self.assertEqual(play(*HOUSE, sweep(7, 2, 7, 2), VALID)[-2:], [[0, 100], [0, 2, 5, 7, 8, 9]])

    def test_nothing_to_sweep(self):
        self.assertEqual(play(*HOUSE, sweep(2, 7, 100), VALID)[-2:], [[0], [0, 2, 5, 7, 8, 9, 100]])

    def test_more_than_64_places(self):
        calls = reads_of(chain_of(range(1024)))
        self.assertEqual(play(*calls, sweep(100, 50), VALID)[-2:],
                         [[0] + list(range(101, 1024)), [0] + list(range(101))])
        self.assertEqual(last(*calls, sweep()), [0] + list(range(1024)))

    def test_refusals(self):
        assert_list_is_looked_at(self, HOUSE + [stage(6, "")], sweep, 9, 6)
        assert_list_is_looked_at(self, HOUSE + [take(2)], sweep, 9, 2)


class Lose(unittest.TestCase):
    def test_of_nothing(self):
        self.assertEqual(play(lose()), [[0]])
        self.assertEqual(play(*HOUSE, lose(), VALID)[-2:], [[0], [0, 2, 5, 7, 8, 9, 100]])

    def test_what_needs_them_goes_too(self):
        self.assertEqual(play(*HOUSE, lose(5), VALID)[-2:], [[0, 2, 5, 8, 9], [0, 7, 100]])
        self.assertEqual(play(*HOUSE, lose(2), VALID)[-2:], [[0, 2], [0, 5, 7, 8, 9, 100]])
        self.assertEqual(play(*HOUSE, lose(7), VALID)[-2:], [[0, 7], [0, 2, 5, 8, 9, 100]])

    def test_a_place_in_a_knot(self):
        for places in ((8,), (9,), (8, 9), (9, 8, 9)):
            self.assertEqual(play(*HOUSE, lose(*places), VALID)[-2:], [[0, 2, 8, 9], [0, 5, 7, 100]])

    def test_several(self):
        self.assertEqual(last(*HOUSE, lose(100, 8, 7, 100)), [0, 2, 7, 8, 9, 100])

    def test_more_than_64_places(self):
        calls = reads_of(chain_of(range(1024)))
        self.assertEqual(play(*calls, lose(700, 300), VALID)[-2:],
                         [[0] + list(range(300, 1024)), [0] + list(range(300))])

    def test_refusals(self):
        assert_list_is_looked_at(self, HOUSE + [stage(6, "")], lose, 9, 6)
        assert_list_is_looked_at(self, HOUSE + [take(2)], lose, 9, 2)


class ComingBack(unittest.TestCase):
    """Whatever way 8 and 9 left, they come back together and as they were."""

    WAYS = [[take(2, 8, 9)], [take(2), take(8, 9)], [sweep(5, 7)], [lose(8)], [lose(9), take(100)]]

    def test_together_as_they_were(self):
        for way in self.WAYS:
            found = play(*HOUSE, *way, stage(9, "@8;@5;@8;"), stage(8, "@9;"), COMMIT, order(8), refs(9), referrers(8))
            self.assertEqual(found[-4:], [[0, 8, 9], [0, 5, 8, 9], [0, 5, 8], [0, 9]])

    def test_not_one_alone(self):
        for way in self.WAYS:
            assert_refused(self, HOUSE + way, add(8, "@9;"), [-5], PLACES)
            assert_refused(self, HOUSE + way + [stage(9, "@8;@5;@8;")], COMMIT, [-5], PLACES)

    def test_not_with_another_text(self):
        for way in self.WAYS:
            assert_refused(self, HOUSE + way, add(9, "@5;"), CLASH, PLACES)
            assert_refused(self, HOUSE + way + [stage(8, "@9;"), stage(9, "@8;@5;")], COMMIT, CLASH, PLACES)
            assert_refused(self, HOUSE + way, read("9:0:\n."), CLASH, PLACES)

    def test_in_a_parcel(self):
        for way in self.WAYS:
            parcel = last(*HOUSE, write(8))[1:]
            self.assertEqual(play(*HOUSE, *way, read(parcel), write(8), add(2, "@9;"))[-3:],
                             [[0, 8, 9], [0] + parcel, [1]])

    def test_again_and_again(self):
        found = play(add(1, "a"), take(1), add(1, "a"), sweep(), add(1, "a"), lose(1), add(1, "b"), COUNTS)
        self.assertEqual(found, [[1], [0, 1], [1], [0, 1], [1], [0, 1], CLASH, [0, 0, 0, 1]])


class Staged(unittest.TestCase):
    """What is staged stays as it was while places leave and come."""

    LEAVING = [take(2), take(2, 8, 9), sweep(), sweep(5), lose(5), lose(100), read("300:1:x\n.")]

    def test_what_is_staged_stays(self):
        for call in self.LEAVING:
            found = play(*HOUSE, stage(200, "@201;"), stage(201, "new"), call, COUNTS, COMMIT, get(200), get(201))
            self.assertEqual(found[-4][2], 2)
            self.assertEqual(found[-3:], [[0, 200, 201], told("@201;"), told("new")])

    def test_a_place_that_leaves_while_it_is_staged(self):
        for call in (take(2), sweep(9), lose(2)):
            self.assertEqual(play(*HOUSE, stage(2, "@9;"), call, stage(2, "x"), COMMIT)[-2:], [[-3], [0, 2]])
            self.assertEqual(play(*HOUSE, stage(2, "other"), call, COMMIT, DROP)[-2:], [CLASH, [1]])

    def test_a_refused_call_leaves_it_too(self):
        for call in (take(9), take(-1), sweep(6), lose(*[5] * 65)):
            found = play(*HOUSE, stage(200, "s"), call, COUNTS, COMMIT, closure(2))
            self.assertLess(found[-4][0], 0)
            self.assertEqual(found[-3:], [[6, 28, 1, 6], [0, 200], [0, 2, 5, 8, 9]])


if __name__ == "__main__":
    unittest.main()
