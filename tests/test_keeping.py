"""Points 1 to 8: room, add, stage, commit, drop, get, pinned, counts."""

import unittest

from tests.helper import (
    ABSENT, BROKEN, CLASH, COMMIT, COUNTS, DROP, FAR, FULL, LIMIT, LONG, NO_PLACES, PLACE, TWICE, VALID,
    add, assert_refused, get, last, lose, pinned, play, referrers, refs, room, stage, sweep, take, told)
from wholekept.keeping import answer_add, answer_counts, answer_room
from wholekept.state import Store


class Room(unittest.TestCase):
    def test_limits_of_n(self):
        self.assertEqual(play(room(0), room(65536), room(1)), [[0], [0], [0]])
        for n in (-1, 65537, -FAR, FAR):
            self.assertEqual(play(room(n)), [LIMIT])

    def test_room_is_kept_from_now_on(self):
        self.assertEqual(play(room(3), add(1, "abc"), add(2, "d"), room(4), add(2, "d")), [[0], [1], FULL, [0], [1]])

    def test_room_of_nothing_takes_empty_texts_only(self):
        self.assertEqual(play(room(0), add(1, ""), add(2, "a")), [[0], [1], FULL])

    def test_full_when_the_load_is_more(self):
        self.assertEqual(play(add(1, "abc"), room(2), room(3)), [[1], FULL, [0]])

    def test_limit_is_looked_at_before_full(self):
        self.assertEqual(last(add(1, "abc"), room(-1)), LIMIT)

    def test_refused_room_stays_as_it_was(self):
        for n, refusal in ((-1, LIMIT), (65537, LIMIT), (2, FULL)):
            found = play(room(5), add(1, "abc"), room(n), add(2, "de"), add(3, "f"))
            self.assertEqual(found, [[0], [1], refusal, [1], FULL])

    def test_what_is_staged_is_no_load(self):
        self.assertEqual(play(stage(1, "abc"), room(2), COMMIT, room(3), COMMIT), [[1], [0], FULL, [0], [0, 1]])

    def test_a_new_store_has_room_for_65536_bytes(self):
        store = Store()
        for p in range(16):
            self.assertEqual(answer_add(store, p, [97] * 4096), [1])
        self.assertEqual(answer_counts(store), [16, 65536, 0, 16])
        self.assertEqual(answer_add(store, 16, [97]), FULL)
        self.assertEqual(answer_add(store, 16, []), [1])
        self.assertEqual(answer_room(store, 65535), FULL)
        self.assertEqual(answer_room(store, 65536), [0])


class Add(unittest.TestCase):
    def test_new_then_valid(self):
        self.assertEqual(play(add(5, "hi"), add(5, "hi"), get(5)), [[1], [0], told("hi")])

    def test_edges_of_places(self):
        self.assertEqual(play(add(0, "a"), add(1023, "b"), VALID), [[1], [1], [0, 0, 1023]])
        for p in NO_PLACES:
            assert_refused(self, [add(1, "a")], add(p, ""), PLACE, (0, 1))

    def test_edges_of_length(self):
        longest = "a" * 4096
        self.assertEqual(play(add(3, longest), get(3)), [[1], told(longest)])
        assert_refused(self, [add(1, "a")], add(3, "a" * 4097), LONG, (1, 3))

    def test_empty_text(self):
        self.assertEqual(play(add(3, ""), get(3), COUNTS, add(3, "a")), [[1], [0], [1, 0, 0, 1], CLASH])

    def test_every_byte_is_kept(self):
        self.assertEqual(last(add(3, range(256)), get(3)), [0] + list(range(256)))

    def test_clash(self):
        assert_refused(self, [add(5, "hi"), stage(7, "z")], add(5, "ho"), CLASH, (5, 7))

    def test_broken(self):
        assert_refused(self, [add(5, "hi")], add(6, "@5;@7;"), BROKEN, (5, 6, 7))
        self.assertEqual(play(add(6, "@5;"), add(5, "hi"), add(6, "@5;")), [BROKEN, [1], [1]])

    def test_may_mention_itself(self):
        self.assertEqual(play(add(6, "@6;"), refs(6)), [[1], [0, 6]])

    def test_what_is_staged_is_not_mentionable_and_stays(self):
        found = play(stage(5, "hi"), add(6, "@5;"), add(5, "other"), add(8, "x"), COUNTS)
        self.assertEqual(found, [[1], BROKEN, [1], [1], [2, 6, 1, 2]])

    def test_full_at_the_limit(self):
        assert_refused(self, [room(5), add(1, "abc")], add(2, "def"), FULL, (1, 2))
        self.assertEqual(last(room(5), add(1, "abc"), add(2, "de")), [1])

    def test_a_valid_place_needs_no_more_room(self):
        self.assertEqual(last(room(3), add(1, "abc"), add(1, "abc")), [0])

    def test_order_of_refusals(self):
        too_long = "@9;" * 1366
        before = [add(1, "abc"), room(3)]
        self.assertEqual(last(*before, add(-1, too_long)), PLACE)
        self.assertEqual(last(*before, add(1, too_long)), LONG)
        self.assertEqual(last(*before, add(1, "@9;abcdef")), CLASH)
        self.assertEqual(last(*before, add(2, "@9;abcdef")), BROKEN)
        self.assertEqual(last(*before, add(2, "@1;abcdef")), FULL)


class Stage(unittest.TestCase):
    def test_counts_the_places(self):
        self.assertEqual(play(stage(1, "a"), stage(1023, ""), stage(0, "@77;")), [[1], [2], [3]])

    def test_edges_of_places(self):
        for p in NO_PLACES:
            assert_refused(self, [stage(1, "a")], stage(p, "b"), PLACE, (0, 1))

    def test_edges_of_length(self):
        self.assertEqual(play(stage(1, "a" * 4096), COMMIT), [[1], [0, 1]])
        assert_refused(self, [stage(1, "a")], stage(2, "a" * 4097), LONG, (1, 2))

    def test_twice_even_with_the_same_text(self):
        assert_refused(self, [stage(1, "a")], stage(1, "a"), TWICE, (1, 2))
        assert_refused(self, [stage(1, "a")], stage(1, "b"), TWICE, (1, 2))

    def test_at_most_64_places(self):
        before = [stage(p, "") for p in range(64)]
        self.assertEqual(last(*before), [64])
        assert_refused(self, before, stage(64, ""), LIMIT, (0, 63, 64))

    def test_order_of_refusals(self):
        before = [stage(p, "") for p in range(64)]
        self.assertEqual(last(*before, stage(-1, "a" * 4097)), PLACE)
        self.assertEqual(last(*before, stage(5, "a" * 4097)), LONG)
        self.assertEqual(last(*before, stage(5, "a")), TWICE)
        self.assertEqual(last(*before, stage(70, "a")), LIMIT)

    def test_admission_is_not_looked_at(self):
        found = play(room(1), add(5, "h"), stage(5, "x"), stage(6, "@9;"), stage(7, "abc"))
        self.assertEqual(found, [[0], [1], [1], [2], [3]])

    def test_is_not_valid_or_pinned_yet(self):
        self.assertEqual(play(stage(5, "x"), get(5), pinned(5), VALID, COUNTS),
                         [[1], ABSENT, ABSENT, [0], [0, 0, 1, 0]])

    def test_room_again_after_drop_and_commit(self):
        before = [stage(p, "") for p in range(64)]
        self.assertEqual(play(*before, DROP, stage(5, "a"))[-2:], [[64], [1]])
        self.assertEqual(play(*before, COMMIT, stage(5, "a"))[-1], [1])


class Commit(unittest.TestCase):
    def test_nothing_staged(self):
        self.assertEqual(play(COMMIT, COUNTS), [[0], [0, 0, 0, 0]])

    def test_a_circle_comes_together(self):
        found = play(stage(9, "@8;"), stage(8, "@9;"), COMMIT, COUNTS, get(8), get(9))
        self.assertEqual(found, [[1], [2], [0, 8, 9], [2, 6, 0, 2], told("@9;"), told("@8;")])

    def test_64_places_at_once(self):
        before = [stage(p, f"@{(p + 1) % 64};") for p in reversed(range(64))]
        self.assertEqual(last(*before, COMMIT), [0] + list(range(64)))

    def test_only_new_places_are_told(self):
        before = [add(5, "hi"), stage(7, "@5;"), stage(5, "hi"), stage(2, "x")]
        self.assertEqual(last(*before, COMMIT), [0, 2, 7])
        self.assertEqual(play(*before, COMMIT, COUNTS)[-1], [3, 6, 0, 3])

    def test_nothing_new(self):
        self.assertEqual(play(add(5, "hi"), stage(5, "hi"), COMMIT, COUNTS), [[1], [1], [0], [1, 2, 0, 1]])

    def test_clash(self):
        assert_refused(self, [add(5, "hi"), stage(6, ""), stage(5, "ho")], COMMIT, CLASH, (5, 6))

    def test_broken(self):
        assert_refused(self, [add(5, "hi"), stage(6, "@5;"), stage(7, "@8;")], COMMIT, BROKEN, (5, 6, 7, 8))

    def test_full_counts_new_places_alone(self):
        before = [room(5), add(5, "abc"), stage(5, "abc"), stage(6, "d"), stage(7, "e")]
        self.assertEqual(last(*before, COMMIT), [0, 6, 7])
        assert_refused(self, before + [stage(8, "f")], COMMIT, FULL, (5, 6, 7, 8))

    def test_each_refusal_is_for_the_whole_batch(self):
        clash, broken, full = stage(5, "ho"), stage(1, "@900;"), stage(0, "too many")
        before = [add(5, "hi"), room(4)]
        self.assertEqual(last(*before, full, broken, clash, COMMIT), CLASH)
        self.assertEqual(last(*before, clash, full, COMMIT), CLASH)
        self.assertEqual(last(*before, full, broken, COMMIT), BROKEN)
        self.assertEqual(last(*before, full, COMMIT), FULL)

    def test_a_refused_commit_can_be_mended(self):
        found = play(stage(6, "@5;"), COMMIT, stage(5, "hi"), COMMIT, COMMIT)
        self.assertEqual(found, [[1], BROKEN, [2], [0, 5, 6], [0]])


class Drop(unittest.TestCase):
    def test_tells_how_many_were_staged(self):
        self.assertEqual(play(DROP, stage(1, "a"), stage(2, "b"), DROP, DROP), [[0], [1], [2], [2], [0]])

    def test_leaves_all_but_the_staged(self):
        found = play(add(5, "hi"), stage(6, "a"), DROP, COUNTS, COMMIT, get(5), stage(6, "b"))
        self.assertEqual(found[2:], [[1], [1, 2, 0, 1], [0], told("hi"), [1]])


class GetAndPinned(unittest.TestCase):
    def test_text(self):
        self.assertEqual(play(add(0, "a"), add(1023, "@0;"), get(0), get(1023), pinned(0), pinned(1023))[2:],
                         [told("a"), told("@0;"), told("a"), told("@0;")])

    def test_refusals(self):
        for call in (get, pinned):
            for p in NO_PLACES:
                assert_refused(self, [add(1, "a")], call(p), PLACE, (1, 2))
            assert_refused(self, [add(1, "a"), stage(2, "b")], call(2), ABSENT, (1, 2))

    def test_a_clash_pins_nothing(self):
        self.assertEqual(last(add(1, "a"), add(1, "b"), pinned(1)), told("a"))

    def test_a_refused_batch_pins_nothing(self):
        self.assertEqual(play(stage(6, "@5;"), COMMIT, pinned(6), DROP, add(6, "new"))[1:],
                         [BROKEN, ABSENT, [1], [1]])


class PinsOutlastValidity(unittest.TestCase):
    """5 holds "hi" and 6 "@5;"; then 6, or 5 and with it 6, isn't valid any more."""

    def setUp(self):
        self.house = [add(5, "hi"), add(6, "@5;")]
        self.without_6 = [self.house + [call] for call in (take(6), sweep(5), lose(6))]
        self.without_both = [self.house + [call] for call in (take(5, 6), sweep(), lose(5))]

    def test_pin_is_told_and_text_is_not(self):
        for before in self.without_6:
            found = play(*before, get(6), refs(6), referrers(6), pinned(6), VALID, COUNTS, referrers(5))
            self.assertEqual(found[3:], [ABSENT, ABSENT, ABSENT, told("@5;"), [0, 5], [1, 2, 0, 2], [0]])

    def test_comes_back_as_it_was_or_not_at_all(self):
        for before in self.without_6:
            for other in ("", "@7;", "@5", "@5;x"):
                assert_refused(self, before, add(6, other), CLASH, (5, 6))
                assert_refused(self, before + [stage(6, other)], COMMIT, CLASH, (5, 6))
            self.assertEqual(play(*before, add(6, "@5;"), add(6, "@5;"), refs(6))[3:], [[1], [0], [0, 5]])
            self.assertEqual(play(*before, stage(6, "@5;"), COMMIT, get(6))[4:], [[0, 6], told("@5;")])
            self.assertEqual(play(*before, add(6, "@5;"), COUNTS)[4], [2, 5, 0, 2])

    def test_an_empty_text_is_a_pin_too(self):
        self.assertEqual(play(add(5, ""), take(5), pinned(5), add(5, "a"), add(5, ""))[2:], [[0], CLASH, [1]])

    def test_a_pin_is_no_valid_place_to_mention(self):
        for before in self.without_both:
            assert_refused(self, before, add(6, "@5;"), BROKEN, (5, 6))
            assert_refused(self, before, add(7, "@5;"), BROKEN, (5, 6, 7))
            assert_refused(self, before + [stage(7, ""), stage(6, "@5;")], COMMIT, BROKEN, (5, 6, 7))
            self.assertEqual(play(*before, stage(6, "@5;"), stage(5, "hi"), COMMIT)[-1], [0, 5, 6])
            self.assertEqual(play(*before, add(5, "hi"), add(6, "@5;"))[-2:], [[1], [1]])

    def test_coming_back_needs_room(self):
        for before in self.without_both:
            assert_refused(self, before + [room(1)], add(5, "hi"), FULL, (5, 6))
            self.assertEqual(last(*before, room(2), add(5, "hi")), [1])
            self.assertEqual(last(*before, room(0), COUNTS), [0, 0, 0, 2])

    def test_clash_is_looked_at_first(self):
        for before in self.without_both:
            self.assertEqual(last(*before, room(0), add(5, "@6;")), CLASH)
            self.assertEqual(last(*before, room(0), add(6, "@5;")), BROKEN)


class Counts(unittest.TestCase):
    def test_new_store(self):
        self.assertEqual(play(COUNTS), [[0, 0, 0, 0]])

    def test_all_four(self):
        found = last(add(1, "abc"), add(2, "@1;"), add(4, ""), stage(9, "long one"), stage(8, ""), COUNTS)
        self.assertEqual(found, [3, 6, 2, 3])

    def test_validity_that_is_lost(self):
        found = play(add(1, "abc"), add(2, "@1;"), add(4, "x"), stage(9, "a"), take(4), COUNTS, lose(1), COUNTS,
                     add(1, "abc"), COUNTS, sweep(), COUNTS)
        self.assertEqual(found[5::2], [[2, 6, 1, 3], [0, 0, 1, 3], [1, 3, 1, 3], [0, 0, 1, 3]])


if __name__ == "__main__":
    unittest.main()
