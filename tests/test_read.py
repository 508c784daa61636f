"""Point 23: read, with parcels, rules and renaming."""

import unittest

from tests.helper import (
    BROKEN, CLASH, COMMIT, COUNTS, FAR, FORM, FULL, LONG, PLACE, RULE, TWICE, VALID, add, assert_refused, get, last,
    lose, parcel_of, pinned, play, read, refs, room, stage, sweep, take, told)


class Parcels(unittest.TestCase):
    def test_no_records(self):
        self.assertEqual(play(read("."), VALID), [[0], [0]])

    def test_places_become_valid(self):
        parcel = parcel_of((8, "@9;"), (5, "hi"), (9, "@8;@5;"))
        self.assertEqual(play(read(parcel), get(5), pinned(8), refs(9), COUNTS),
                         [[0, 5, 8, 9], told("hi"), told("@9;"), [0, 5, 8], [3, 11, 0, 3]])

    def test_written_out(self):
        self.assertEqual(play(read("0:0:\n1023:3:@0;\n."), get(0), get(1023)), [[0, 0, 1023], [0], told("@0;")])

    def test_texts_may_hold_any_bytes(self):
        for text in (".", "\n", "\n.", "5:2:hi\n.", ":", "12", "".join(map(chr, range(64)))):
            self.assertEqual(play(read(parcel_of((7, text))), get(7)), [[0, 7], told(text)])

    def test_no_parcels(self):
        for text in ("", "..", ".\n", ". ", " .", "\n.", "5:2:hi\n", "5:2:hi.", "5:2:hi\n..", "5:2:hi\n.\n", "5:2:hi",
                     "5:2:h\n.", "5:2:hix\n.", "5:1:hi\n.", "5:3:hi\n.", "5:4:hi\n.", "5:5:hi\n.", "5:99:hi\n.",
                     "5:999999999:hi\n.", ":2:hi\n.", "5::hi\n.", "5:2hi\n.", "52:hi\n.", "5;2:hi\n.", "5:2;hi\n.",
                     "05:2:hi\n.", "5:02:hi\n.", "00:2:hi\n.", "5:00:\n.", "-5:2:hi\n.", "+5:2:hi\n.", "5:-2:hi\n.",
                     " 5:2:hi\n.", "5 :2:hi\n.", "5: 2:hi\n.", "x:2:hi\n.", "5:x:hi\n.", "5:2:hi\r.", "5:2:hi\n5",
                     "5:2:hi\n5:", "5:2:hi\n6:2", "5:2:hi\n6:2:", "5:2:hi\n6:2:h", "5", "5:", "5:2", "5:2:", "5:0:",
                     "5:0:\n", "5:2:hi\n\n.", "5:2:hi\n6:2:hi.", "1000000000:2:hi\n.", "0000000005:2:hi\n.",
                     "5:1000000000:hi\n.", "5:0000000002:hi\n.", "5:2:hi\n.6:0:\n.", "." + "9" * 5000, "9" * 5000,
                     "9" * 5000 + ":0:\n.", "5:" + "9" * 5000 + ":\n."):
            self.assertEqual(play(read(text), COUNTS), [FORM, [0, 0, 0, 0]], text)

    def test_every_prefix_of_a_parcel_is_none(self):
        parcel = parcel_of((5, "hi"), (12, "@5;"), (0, ""))
        for end in range(len(parcel)):
            self.assertEqual(play(read(parcel[:end])), [FORM])
        self.assertEqual(play(read(parcel)), [[0, 0, 5, 12]])

    def test_nine_digits_are_a_number(self):
        self.assertEqual(last(read("999999999:2:hi\n.")), PLACE)
        self.assertEqual(last(read("999999999:2:hi\n.", (999999999, 4))), [0, 4])

    def test_length_of_a_parcel(self):
        texts = ["a" * 4096, "b" * (8192 - 4096 - 8 - 8 - 1)]
        parcel = parcel_of((1, texts[0]), (2, texts[1]))
        self.assertEqual(len(parcel), 8192)
        self.assertEqual(play(read(parcel), get(1), get(2)), [[0, 1, 2], told(texts[0]), told(texts[1])])
        longer = parcel_of((1, texts[0]), (2, texts[1] + "b"))
        assert_refused(self, [add(5, "hi")], read(longer), LONG, (1, 2, 5))
        self.assertEqual(last(read("x" * 8192)), FORM)
        self.assertEqual(last(read("x" * 8193)), LONG)
        self.assertEqual(last(read("x" * 15900)), LONG)


class Rules(unittest.TestCase):
    def test_places_and_mentions_are_renamed(self):
        parcel = parcel_of((5, "hi"), (8, "@9;"), (9, "@8;@5;"))
        self.assertEqual(play(read(parcel, (5, 6, 8, 0)), get(0), get(6), get(9)),
                         [[0, 0, 6, 9], told("@9;"), told("hi"), told("@0;@6;")])

    def test_all_at_once(self):
        parcel = parcel_of((1, "@2;"), (2, "@1;@3;"), (3, "@1;@2;"))
        self.assertEqual(play(read(parcel, (1, 2, 2, 3, 3, 1)), get(1), get(2), get(3)),
                         [[0, 1, 2, 3], told("@2;@3;"), told("@3;"), told("@2;@1;")])

    def test_a_number_that_is_not_told_stays(self):
        self.assertEqual(play(read(parcel_of((4, "@4;")), (7, 8)), get(4)), [[0, 4], told("@4;")])
        self.assertEqual(play(read(parcel_of((4, "@4;")), (4, 4)), get(4)), [[0, 4], told("@4;")])

    def test_only_mentions_are_renamed(self):
        text = "7@7@7;@07;7;@7;7@;@7"
        self.assertEqual(play(read(parcel_of((7, text)), (7, 321)), get(321)),
                         [[0, 321], told("7@7@321;@07;7;@321;7@;@7")])

    def test_mentions_beside_one_another(self):
        self.assertEqual(play(read(parcel_of((7, "@7;@10;@7;"), (10, "")), (7, 0, 10, 1000)), get(0)),
                         [[0, 0, 1000], told("@0;@1000;@0;")])

    def test_mentions_of_what_is_valid(self):
        self.assertEqual(play(add(3, ""), read(parcel_of((7, "@8;")), (8, 3)), get(7))[1:], [[0, 7], told("@3;")])
        self.assertEqual(last(add(8, ""), read(parcel_of((7, "@8;")), (8, 3))), BROKEN)

    def test_great_numbers(self):
        self.assertEqual(play(read(parcel_of((7, f"@{FAR};")), (FAR, 7)), get(7)), [[0, 7], told("@7;")])
        self.assertEqual(last(read(parcel_of((7, f"@{FAR}0;")), (FAR, 7))), BROKEN)
        self.assertEqual(last(read(parcel_of((7, f"@{FAR + 1};")), (FAR, 7))), BROKEN)
        self.assertEqual(last(read(parcel_of((7, "@7;")), (7, FAR))), PLACE)
        self.assertEqual(last(read(parcel_of((7, "@8;")), (8, FAR))), BROKEN)

    def test_very_many_digits(self):
        long_mention = "@" + "9" * 5000 + ";"
        parcel = parcel_of((7, long_mention))
        self.assertEqual(last(read(parcel, (9, 8))), LONG)
        self.assertEqual(last(read(parcel_of((7, long_mention[1:])), (9, 8))), LONG)
        kept = "@0" + "9" * 4000 + ";@7;"
        self.assertEqual(play(read(parcel_of((7, kept)), (7, 5)), get(5)), [[0, 5], told("@0" + "9" * 4000 + ";@5;")])

    def test_no_rules(self):
        for rule in ((1,), (1, 2, 3), (-1, 2), (1, -2), (-FAR, 0), (0, -FAR), (1, 2, 1, 3), (1, 2, 1, 2),
                     (1, 2, 3, 4, 1, 5), (0, 0, 0, 0), tuple(range(999))):
            assert_refused(self, [add(5, "hi"), stage(6, "a")], read(parcel_of((7, "")), rule), RULE, (5, 6, 7))

    def test_what_is_renamed_to_may_be_told_twice(self):
        self.assertEqual(last(read(parcel_of((1, "")), (1, 7, 2, 7))), [0, 7])
        self.assertEqual(last(read(parcel_of((1, "")), (1, 2, 2, 1))), [0, 2])

    def test_a_rule_of_1000_numbers(self):
        rule = [number for k in range(500) for number in (k, 1023 - k)]
        self.assertEqual(play(read(parcel_of((499, "@0;"), (0, "@499;")), rule), get(524)),
                         [[0, 524, 1023], told("@1023;")])


class Refusals(unittest.TestCase):
    def test_place(self):
        before = [add(5, "hi"), stage(6, "a")]
        self.assertEqual(last(read(parcel_of((1023, "")))), [0, 1023])
        assert_refused(self, before, read(parcel_of((1, ""), (1024, ""))), PLACE, (1, 5, 6))
        assert_refused(self, before, read(parcel_of((1, "")), (1, 1024)), PLACE, (1, 5, 6))
        self.assertEqual(last(read(parcel_of((1024, "")), (1024, 1))), [0, 1])

    def test_twice(self):
        before = [add(5, "hi"), stage(6, "a")]
        assert_refused(self, before, read(parcel_of((1, "a"), (1, "a"))), TWICE, (1, 5, 6))
        assert_refused(self, before, read(parcel_of((1, "a"), (2, "b")), (1, 2)), TWICE, (1, 2, 5, 6))
        self.assertEqual(play(read(parcel_of((1, "a"), (1, "b")), (1, 2))), [TWICE])
        self.assertEqual(play(read(parcel_of((1, "a"), (2, "b")), (1, 2, 2, 1))), [[0, 1, 2]])

    def test_long_is_looked_at_behind_the_renaming(self):
        grown = "@1;" * 1024
        self.assertEqual(last(add(10, ""), read(parcel_of((7, grown)), (1, 10)), get(7)), told("@10;" * 1024))
        assert_refused(self, [add(10, "")], read(parcel_of((7, grown + "x")), (1, 10)), LONG, (1, 7, 10))
        shrunk = "@100;" * 1365 + "x"
        self.assertGreater(len(shrunk), 4096)
        self.assertEqual(last(add(1, ""), read(parcel_of((7, shrunk)), (100, 1)), get(7)), told("@1;" * 1365 + "x"))
        self.assertEqual(last(add(1, ""), read(parcel_of((7, shrunk + "x")), (100, 1))), LONG)
        self.assertEqual(last(add(100, ""), read(parcel_of((7, shrunk)))), LONG)

    def test_clash(self):
        before = [add(5, "hi"), stage(6, "a")]
        assert_refused(self, before, read(parcel_of((1, ""), (5, "ho"))), CLASH, (1, 5, 6))
        self.assertEqual(last(add(5, "@5;"), read(parcel_of((4, "@4;")), (4, 5))), [0])

    def test_broken(self):
        before = [add(5, "hi"), stage(6, "a")]
        assert_refused(self, before, read(parcel_of((1, "@5;"), (2, "@6;"))), BROKEN, (1, 2, 5, 6))

    def test_full(self):
        before = [room(4), add(5, "hi"), stage(6, "a")]
        assert_refused(self, before, read(parcel_of((5, "hi"), (1, "ab"), (2, "c"))), FULL, (1, 2, 5, 6))
        self.assertEqual(last(*before, read(parcel_of((5, "hi"), (1, "ab")))), [0, 1])

    def test_order_of_refusals(self):
        before = [add(5, "hi"), room(4)]
        clash, broken, full, longer = (5, "ho"), (1, "@900;"), (2, "many"), (3, "@900;" * 820)
        twice, place = (3, "@900;" * 820), (1024, "")
        self.assertEqual(last(*before, read("x" * 8193, (1,))), LONG)
        self.assertEqual(last(*before, read("x", (1,))), RULE)
        self.assertEqual(last(*before, read(parcel_of(place), (1, 1, 1, 1))), RULE)
        self.assertEqual(last(*before, read(parcel_of((3, "")) + [46], ())), FORM)
        self.assertEqual(last(*before, read(parcel_of(place, place, clash)[:-1])), FORM)
        self.assertEqual(last(*before, read(parcel_of(clash, (3, ""), twice, place))), PLACE)
        self.assertEqual(last(*before, read(parcel_of(clash, (3, ""), twice))), TWICE)
        self.assertEqual(last(*before, read(parcel_of(clash, broken, longer))), LONG)
        self.assertEqual(last(*before, read(parcel_of(full, broken, clash))), CLASH)
        self.assertEqual(last(*before, read(parcel_of(full, broken))), BROKEN)
        self.assertEqual(last(*before, read(parcel_of(full))), FULL)

    def test_what_is_staged_stays(self):
        found = play(stage(6, "a"), read(parcel_of((7, "b"))), COUNTS, COMMIT, VALID)
        self.assertEqual(found[1:], [[0, 7], [1, 1, 1, 1], [0, 6], [0, 6, 7]])

    def test_only_new_places_are_told(self):
        parcel = parcel_of((9, ""), (5, "hi"), (1, "@5;@9;"))
        self.assertEqual(play(add(5, "hi"), read(parcel), read(parcel)), [[1], [0, 1, 9], [0]])


class AfterValidityIsLost(unittest.TestCase):
    """5 holds "hi" and 6 "@5;"; then 6, or 5 and with it 6, isn't valid any more."""

    def setUp(self):
        self.house = [add(5, "hi"), add(6, "@5;")]
        self.without_6 = [self.house + [call] for call in (take(6), sweep(5), lose(6))]
        self.without_both = [self.house + [call] for call in (take(5, 6), sweep(), lose(5))]

    def test_comes_back_as_it_was_or_not_at_all(self):
        for before in self.without_6:
            assert_refused(self, before, read(parcel_of((6, "ho"))), CLASH, (5, 6))
            assert_refused(self, before, read(parcel_of((1, ""), (6, ""))), CLASH, (1, 5, 6))
            self.assertEqual(play(*before, read(parcel_of((6, "@5;"))), get(6), COUNTS)[3:],
                             [[0, 6], told("@5;"), [2, 5, 0, 2]])
            self.assertEqual(last(*before, read(parcel_of((6, "@5;"), (5, "hi")))), [0, 6])

    def test_the_renamed_text_is_held_against_the_pin(self):
        for before in self.without_6:
            self.assertEqual(last(*before, read(parcel_of((8, "@9;")), (8, 6, 9, 5))), [0, 6])
            assert_refused(self, before, read(parcel_of((8, "@5;")), (8, 6, 5, 9)), CLASH, (5, 6, 8))
            self.assertEqual(last(*before, read(parcel_of((6, "@7;")), (6, 8, 7, 5))), [0, 8])

    def test_a_pin_is_no_valid_place_to_mention(self):
        for before in self.without_both:
            assert_refused(self, before, read(parcel_of((6, "@5;"))), BROKEN, (5, 6))
            assert_refused(self, before, read(parcel_of((7, "@8;")), (8, 5)), BROKEN, (5, 6, 7))
            self.assertEqual(last(*before, read(parcel_of((6, "@5;"), (5, "hi")))), [0, 5, 6])

    def test_coming_back_needs_room(self):
        for before in self.without_both:
            parcel = parcel_of((6, "@5;"), (5, "hi"))
            assert_refused(self, before + [room(4)], read(parcel), FULL, (5, 6))
            self.assertEqual(last(*before, room(5), read(parcel)), [0, 5, 6])

    def test_what_is_staged_stays(self):
        for before in self.without_both:
            found = play(*before, stage(5, "hi"), read(parcel_of((5, "hi"))), COUNTS, COMMIT, COUNTS)
            self.assertEqual(found[4:], [[0, 5], [1, 2, 1, 2], [0], [1, 2, 0, 2]])


if __name__ == "__main__":
    unittest.main()
