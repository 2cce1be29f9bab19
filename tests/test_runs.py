import re
import unittest

from jumpfield.errors import FieldError, NoPattern
from jumpfield.runs import read_runs, shown_runs
from plain import chance_of

SIGNS = ".ABCDEFG/"
RUNS = re.compile(r"(?:(?:[2-9]|[1-9][0-9]{1,12})?[.A-G/])*")


class ReadRunsTest(unittest.TestCase):
    def refused(self, text):
        with self.subTest(text=text):
            with self.assertRaises(FieldError) as caught:
                read_runs(text)
            self.assertIs(caught.exception.__class__, NoPattern)

    def test_the_text_without_signs(self):
        self.assertEqual(read_runs(""), [])

    def test_each_sign(self):
        for sign in SIGNS:
            self.assertEqual(read_runs(sign), [(1, sign)])
            self.assertEqual(read_runs("2" + sign), [(2, sign)])
            self.assertEqual(read_runs("12" + sign + sign), [(12, sign), (1, sign)])
        self.assertEqual(read_runs(SIGNS), [(1, sign) for sign in SIGNS])

    def test_as_they_stand(self):
        self.assertEqual(read_runs("AA3A"), [(1, "A"), (1, "A"), (3, "A")])
        self.assertEqual(read_runs("2.2.//"), [(2, "."), (2, "."), (1, "/"), (1, "/")])
        self.assertIs(read_runs("A")[0].__class__, tuple)

    def test_amounts(self):
        for amount in (2, 9, 10, 11, 19, 100, 101, 12345, 10**12, 10**13 - 1, 9876543210123):
            self.assertEqual(read_runs(f"{amount}G"), [(amount, "G")])
            self.assertEqual(read_runs(f"A{amount}/{amount}."), [(1, "A"), (amount, "/"), (amount, ".")])
        for figures in range(1, 14):
            self.assertEqual(read_runs("9" * figures + "A"), [(10**figures - 1, "A")])

    def test_wrong_amounts(self):
        for amount in ("1", "0", "00", "01", "02", "012", "0" * 13, "1" + "0" * 13, "9" * 14, "9" * 4990):
            for sign in SIGNS:
                self.refused(amount + sign)
                self.refused("A" + amount + sign)
                self.refused(amount + sign + "A")

    def test_a_number_without_a_sign(self):
        for text in ("2", "12", "A2", "2A3", "1", "0", "9" * 13, "A/.5"):
            self.refused(text)

    def test_other_signs(self):
        others = [chr(code) for code in range(32, 127) if chr(code) not in SIGNS + "0123456789%"]
        for other in others + ["\n", "\t"]:
            self.refused(other)
            for place in range(5):
                self.refused("2A/."[:place] + other + "2A/."[place:])
        for text in ("a", "g", "H", "-2A", "+2A", "2 A", " A", "A ", "2,A", "A\n", "\nA", "2\tA", "A/\nA"):
            self.refused(text)

    def test_what_is_no_text(self):
        for thing in (None, 0, 2, True, [], ["A"], [(1, "A")], (), ("A",), {}, 1.0, b"A"):
            self.refused(thing)

    def test_some_texts_against_the_words(self):
        chance = chance_of("runs")
        good = 0
        for count in range(4000):
            text = "".join(chance.choice("01259ABG./") for sign in range(chance.randrange(1, 9)))
            if RUNS.fullmatch(text):
                good += 1
                told = read_runs(text)
                self.assertEqual("".join((str(amount) if amount > 1 else "") + sign for amount, sign in told), text)
            else:
                self.refused(text)
        self.assertGreater(good, 300)

    def test_many_runs(self):
        self.assertEqual(read_runs("A" * 5000), [(1, "A")] * 5000)

    def test_a_new_list_each_time(self):
        told = read_runs("2A")
        told.clear()
        self.assertEqual(read_runs("2A"), [(2, "A")])


class ShownRunsTest(unittest.TestCase):
    def test_none(self):
        self.assertEqual(shown_runs([]), "")

    def test_amounts(self):
        for sign in SIGNS:
            self.assertEqual(shown_runs([(1, sign)]), sign)
            self.assertEqual(shown_runs([(2, sign)]), "2" + sign)
            self.assertEqual(shown_runs([(10**13 - 1, sign)]), "9999999999999" + sign)

    def test_neighbours_are_put_together(self):
        self.assertEqual(shown_runs([(1, "A"), (1, "A")]), "2A")
        self.assertEqual(shown_runs([(1, "A"), (2, "A"), (3, "A"), (1, "B"), (1, "A")]), "6ABA")
        self.assertEqual(shown_runs([(1, "."), (9, "."), (1, "/"), (1, "/"), (1, "/")]), "10.3/")
        self.assertEqual(shown_runs([(1, "A")] * 5000), "5000A")
        self.assertEqual(shown_runs([(10**13 - 1, "A"), (1, "A")]), "10000000000000A")

    def test_read_again(self):
        chance = chance_of("shown runs")
        for count in range(200):
            runs = [(chance.choice([1, 1, 2, 17, 10**11]), chance.choice(SIGNS)) for run in range(chance.randrange(9))]
            handed = list(runs)
            text = shown_runs(handed)
            self.assertEqual(handed, runs)
            told = read_runs(text)
            self.assertEqual(shown_runs(told), text)
            for first, second in zip(told, told[1:]):
                self.assertNotEqual(first[1], second[1])
            for sign in SIGNS:
                wanted = sum(amount for amount, other in runs if other == sign)
                self.assertEqual(sum(amount for amount, other in told if other == sign), wanted)


if __name__ == "__main__":
    unittest.main()
