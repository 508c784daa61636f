"""Point 22: write, and what is written read again."""

import unittest

from tests.helper import (
    ABSENT, COMMIT, LIMIT, LONG, PLACE, VALID, add, assert_list_is_looked_at, assert_refused, chain_of, get, last,
    parcel_of, play, read, reads_of, stage, take, told, write)

# 8 and 9 mention one another, 9 also 5; 2 mentions 9; 7 mentions itself.
HOUSE = [add(5, "hi"), stage(8, "@9;"), stage(9, "@8;@5;"), COMMIT, add(2, "@9;"), add(7, "@7;")]
BOTH = 8192 - len(parcel_of((1, "a" * 4096), (2, "b" * 1000))) + 1000


class Write(unittest.TestCase):
    def test_of_nothing(self):
        self.assertEqual(play(write()), [told(".")])
        self.assertEqual(last(*HOUSE, write()), told("."))

    def test_records_in_copying_order(self):
        self.assertEqual(last(*HOUSE, write(8)), told("5:2:hi\n8:3:@9;\n9:6:@8;@5;\n."))
        self.assertEqual(last(*HOUSE, write(7, 2)), told("5:2:hi\n7:3:@7;\n8:3:@9;\n9:6:@8;@5;\n2:3:@9;\n."))

    def test_a_goal_may_stand_several_times(self):
        self.assertEqual(last(*HOUSE, write(5, 7, 5, 5, 7)), told("5:2:hi\n7:3:@7;\n."))

    def test_numbers_in_decimal(self):
        self.assertEqual(last(add(0, ""), write(0)), told("0:0:\n."))
        self.assertEqual(last(add(1023, "abcdefghij"), write(1023)), told("1023:10:abcdefghij\n."))
        self.assertEqual(last(add(100, "x" * 100), write(100)), told("100:100:" + "x" * 100 + "\n."))

    def test_any_bytes(self):
        self.assertEqual(last(add(3, range(256)), write(3)), told("3:256:") + list(range(256)) + [10, 46])
        self.assertEqual(last(add(3, "\n."), write(3)), told("3:2:\n.\n."))

    def test_8192_bytes(self):
        before = [add(1, "a" * 4096), add(2, "b" * BOTH)]
        self.assertEqual(len(last(*before, write(1, 2))), 1 + 8192)
        self.assertEqual(last(*before, write(1, 2)), [0] + parcel_of((1, "a" * 4096), (2, "b" * BOTH)))

    def test_8193_bytes(self):
        before = [add(1, "a" * 4096), add(2, "b" * (BOTH + 1))]
        # What a refusal left as it was is shown by calls that answer less than the long texts.
        self.assertEqual(play(*before, stage(3, "s"), write(1, 2), write(2), COMMIT)[-3:],
                         [LONG, [0] + parcel_of((2, "b" * (BOTH + 1))), [0, 3]])

    def test_the_longest_text_alone(self):
        self.assertEqual(last(add(9, "a" * 4096), write(9)), told("9:4096:" + "a" * 4096 + "\n."))

    def test_many_records(self):
        calls = reads_of(chain_of(range(1024)))
        self.assertEqual(last(*calls, write(1023)), LONG)
        self.assertEqual(last(*calls, write(500)), [0] + parcel_of(*chain_of(range(501))))

    def test_list_is_looked_at(self):
        assert_list_is_looked_at(self, HOUSE + [stage(6, "")], write, 9, 6)
        assert_list_is_looked_at(self, HOUSE + [take(2)], write, 9, 2)

    def test_long_is_looked_at_last(self):
        before = [add(1, "a" * 4096), add(2, "b" * 4096)]
        self.assertEqual(play(*before, write(*[1, 2] * 33), write(1, 2, -1), write(1, 2, 3), write(1, 2))[2:],
                         [LIMIT, PLACE, ABSENT, LONG])

    def test_changes_nothing(self):
        self.assertEqual(play(*HOUSE, stage(6, ""), write(2), VALID, COMMIT)[-2:], [[0, 2, 5, 7, 8, 9], [0, 6]])


class WrittenAndRead(unittest.TestCase):
    def test_in_another_store(self):
        parcel = last(*HOUSE, write(2, 7))[1:]
        self.assertEqual(play(read(parcel), get(9), write(2, 7), read(parcel)),
                         [[0, 2, 5, 7, 8, 9], told("@8;@5;"), [0] + parcel, [0]])

    def test_with_a_rule(self):
        parcel = last(*HOUSE, write(8))[1:]
        self.assertEqual(play(read(parcel, (5, 6, 8, 0)), write(0)),
                         [[0, 0, 6, 9], told("6:2:hi\n0:3:@9;\n9:6:@0;@6;\n.")])

    def test_every_byte(self):
        parcel = last(add(3, range(256)), write(3))[1:]
        self.assertEqual(play(read(parcel), get(3)), [[0, 3], [0] + list(range(256))])

    def test_nothing_comes_before_what_it_needs(self):
        # Each beginning of the copying order that ends with a whole knot can be read by itself.
        for pairs in ([(5, "hi")], [(5, "hi"), (8, "@9;"), (9, "@8;@5;")]):
            self.assertEqual(last(read(parcel_of(*pairs))), [0] + [p for p, text in pairs])
        assert_refused(self, [add(5, "hi")], read(parcel_of((8, "@9;"))), [-5], (5, 8, 9))


if __name__ == "__main__":
    unittest.main()
