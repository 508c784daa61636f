"""What the document says of texts and mentions, seen through add, refs and read."""

import unittest

from tests.helper import BROKEN, add, get, last, parcel_of, play, read, refs, told


def references(text, valid=(0, 1, 5, 17, 20, 1023)):
    """What a text mentions that is held at 900 among these valid places."""
    return last(*[add(place, "") for place in valid], add(900, text), refs(900))


class Finding(unittest.TestCase):
    def test_one_mention(self):
        self.assertEqual(references("@17;"), [0, 17])
        self.assertEqual(references("see @17; there"), [0, 17])

    def test_zero_is_one_digit(self):
        self.assertEqual(references("@0;"), [0, 0])
        self.assertEqual(references("@00;"), [0])

    def test_no_mentions(self):
        for text in ("", "@", "@;", "@17", "@017;", "17;", "@17 ;", "@ 17;", "@-1;", "@+1;", "@1.;", "@1:", "@x17;",
                     "@1x7;", "@1;"[:-1], "\x80" + "17;", "@/;", "@:;", "@1\n;"):
            self.assertEqual(references(text), [0], text)

    def test_search_goes_on_at_the_next_byte(self):
        self.assertEqual(references("@1@17;"), [0, 17])
        self.assertEqual(references("@@17;"), [0, 17])
        self.assertEqual(references("@;@17;"), [0, 17])
        self.assertEqual(references("@017;@5;"), [0, 5])
        self.assertEqual(references("@0@5;"), [0, 5])

    def test_search_goes_on_behind_the_mention(self):
        self.assertEqual(references("@17;@5;"), [0, 5, 17])
        self.assertEqual(references("@17;;@5;5;"), [0, 5, 17])
        self.assertEqual(references("@17;20;"), [0, 17])

    def test_at_the_texts_end(self):
        self.assertEqual(references("@5;@17"), [0, 5])
        self.assertEqual(references("@5;@"), [0, 5])

    def test_all_digits_count(self):
        self.assertEqual(references("@1023;"), [0, 1023])
        self.assertEqual(last(add(102, ""), add(900, "@1023;")), BROKEN)

    def test_bytes_beside_the_digits(self):
        # 47 and 58 stand just outside of the digits, 48 and 57 are the first and the last of them.
        self.assertEqual(last(add(9, ""), add(90, ""), add(900, "@9;@90;"), refs(900)), [0, 9, 90])
        self.assertEqual(references([64, 49, 47, 59, 64, 49, 58, 59]), [0])


class BeyondThePlaces(unittest.TestCase):
    def test_no_place(self):
        for number in ("1024", "99999", "1000000000000000000", "9" * 19, "1" + "0" * 19, "9" * 30):
            self.assertEqual(last(add(0, ""), add(1, ""), add(900, f"@{number};")), BROKEN)

    def test_very_many_digits(self):
        for digits in ("1" + "0" * 4092, "9" * 4094, "5" * 4000):
            self.assertEqual(last(add(0, ""), add(1, ""), add(5, ""), add(900, f"@{digits};")), BROKEN)

    def test_very_many_digits_without_a_mention(self):
        for text in ("@" + "9" * 4095, "@0" + "9" * 4093 + ";", "@" + "1" * 4094 + "@"):
            self.assertEqual(play(add(900, text), get(900), refs(900)), [[1], told(text), [0]])

    def test_many_digits_in_a_parcel(self):
        for rule in ((), (0, 900), (900, 3), (9, 8)):
            self.assertEqual(last(read(parcel_of((900, "@" + "9" * 4094 + ";")), rule)), BROKEN)


if __name__ == "__main__":
    unittest.main()
