import unittest

from jumpfield.errors import NoNumber
from jumpfield.figures import is_whole, read_whole


class IsWholeTest(unittest.TestCase):
    def test_ints_of_either_sign_and_any_length(self):
        for thing in (0, 1, -1, 7, -12, 10**30, -(10**30), 10**299, -(10**299)):
            with self.subTest(thing=thing):
                self.assertIs(is_whole(thing), True)

    def test_truths_are_none(self):
        self.assertIs(is_whole(True), False)
        self.assertIs(is_whole(False), False)

    def test_other_things_are_none(self):
        for thing in ("", "0", "12", None, [], [1], (), (1,), {}, {1: 1}, 1.0, b"1", 1j, int, is_whole):
            with self.subTest(thing=thing):
                self.assertIs(is_whole(thing), False)

    def test_what_is_handed_in_stays(self):
        things = [1, [2], "3"]
        is_whole(things)
        self.assertEqual(things, [1, [2], "3"])


class ReadWholeTest(unittest.TestCase):
    def refused(self, text):
        with self.subTest(text=text):
            with self.assertRaises(NoNumber) as caught:
                read_whole(text)
            self.assertIs(caught.exception.__class__, NoNumber)

    def told(self, text, number):
        with self.subTest(text=text):
            answer = read_whole(text)
            self.assertIs(answer.__class__, int)
            self.assertEqual(answer, number)

    def test_zero(self):
        self.told("0", 0)

    def test_each_figure(self):
        for number in range(1, 10):
            self.told(str(number), number)
            self.told("-" + str(number), -number)
            self.told("1" + str(number), 10 + number)
        self.told("1234567890", 1234567890)
        self.told("-9876543210", -9876543210)

    def test_one_to_thirty_figures(self):
        for amount in range(1, 31):
            for number in (10 ** (amount - 1), 10**amount - 1, int("987654321" * 4) // 10 ** (36 - amount)):
                self.assertEqual(len(str(number)), amount)
                self.told(str(number), number)
                self.told("-" + str(number), -number)

    def test_more_than_thirty_figures(self):
        for amount in (31, 32, 60, 300, 4999):
            for text in ("9" * amount, "1" + "0" * (amount - 1)):
                self.refused(text)
                self.refused("-" + text)

    def test_zero_ahead(self):
        for text in ("00", "01", "007", "-01", "-00", "0" * 30, "0" * 29 + "1", "0-1"):
            self.refused(text)

    def test_minus(self):
        for text in ("-0", "-", "--", "--1", "1-", "-1-", "1-2", "- 1", "-" * 31):
            self.refused(text)

    def test_no_signs(self):
        self.refused("")

    def test_other_signs_at_each_place(self):
        others = [chr(code) for code in range(32, 127) if chr(code) not in "0123456789"]
        for other in others + ["\n", "\t", "\r", "\r\n"]:
            self.refused(other)
            for place in range(4):
                if (other, place) != ("-", 0):
                    self.refused("123"[:place] + other + "123"[place:])
            for place in range(5):
                if (other, place) != ("-", 0):
                    self.refused("-123"[:place] + other + "-123"[place:])
            self.refused("0" + other)
            if other != "-":
                self.refused(other + "0")

    def test_forms_that_python_would_take(self):
        for text in ("1_000", "+1", "+0", " 1", "1 ", "1\n", "\t1", "0x1", "0b1", "1e3", "1.0", "1.", ".1"):
            self.refused(text)

    def test_what_is_no_text(self):
        for thing in (0, 1, -1, True, False, None, [], ["1"], (), ("1",), {}, {"1": 1}, 1.0, b"1"):
            self.refused(thing)

    def test_what_is_handed_in_stays(self):
        things = ["1", "2"]
        self.refused(things)
        self.assertEqual(things, ["1", "2"])


if __name__ == "__main__":
    unittest.main()
