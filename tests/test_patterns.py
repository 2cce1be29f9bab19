import unittest

from jumpfield.boxes import filled
from jumpfield.errors import FieldError, NoPattern, TooFar, TooMany
from jumpfield.fields import LIMIT, field_of, planted
from jumpfield.grove import Grove
from jumpfield.patterns import read_pattern, shown_pattern
from plain import chance_of, grown, random_states


class PatternsCase(unittest.TestCase):
    def setUp(self):
        self.grove = Grove()
        self.bare = field_of(self.grove, [])

    def refused(self, error, text):
        with self.subTest(text=text):
            with self.assertRaises(FieldError) as caught:
                read_pattern(self.grove, text)
            self.assertIs(caught.exception.__class__, error)

    def told(self, text, cells):
        with self.subTest(text=text):
            self.assertEqual(read_pattern(self.grove, text), field_of(self.grove, cells))

    def box(self, box, state):
        return filled(self.grove, self.bare, box, state)


class ReadPatternTest(PatternsCase):
    def test_no_runs(self):
        for text in ("0,0:", "5,-7:", "-9999999999999,9999999999999:", "0,0:.", "3,4:5./9./"):
            self.told(text, [])

    def test_each_letter(self):
        for number, letter in enumerate("ABCDEFG"):
            self.told("0,0:" + letter, [(0, 0, number + 1)])
        self.told("-3,7:ABCDEFG", [(number - 3, 7, number + 1) for number in range(7)])

    def test_going_to_the_right(self):
        self.told("2,3:A.B", [(2, 3, 1), (4, 3, 2)])
        self.told("2,3:.A", [(3, 3, 1)])
        self.told("2,3:..3.A", [(7, 3, 1)])
        self.told("0,0:3A2.2B", [(0, 0, 1), (1, 0, 1), (2, 0, 1), (5, 0, 2), (6, 0, 2)])
        self.told("0,0:A.", [(0, 0, 1)])

    def test_going_downwards_and_back(self):
        self.told("2,3:A/B", [(2, 3, 1), (2, 4, 2)])
        self.told("2,3:2A/.B", [(2, 3, 1), (3, 3, 1), (3, 4, 2)])
        self.told("2,3:5.A3/B//C", [(7, 3, 1), (2, 6, 2), (2, 8, 3)])
        self.told("2,3:/A/", [(2, 4, 1)])
        self.told("-5,-5:9/A", [(-5, 4, 1)])

    def test_a_gliding_one(self):
        self.told("1,-2:.A/2.A/3A", [(2, -2, 1), (3, -1, 1), (1, 0, 1), (2, 0, 1), (3, 0, 1)])

    def test_places_of_thirteen_figures(self):
        self.told("1099511627775,-1099511627776:G", [(LIMIT - 1, -LIMIT, 7)])
        self.told("-1099511627776,1099511627775:A", [(-LIMIT, LIMIT - 1, 1)])
        self.told("-9999999999999,0:8900488372223.A", [(-LIMIT, 0, 1)])
        self.told("0,-9999999999999:8900488372223/A", [(0, -LIMIT, 1)])
        self.told("9999999999999,-9999999999999:7.3/.", [])

    def test_places_of_fourteen_figures(self):
        for number in ("10000000000000", "-10000000000000", "99999999999999", "1" + "0" * 29, "1" + "0" * 30):
            self.refused(NoPattern, number + ",0:")
            self.refused(NoPattern, "0," + number + ":A")

    def test_wrong_places(self):
        for number in ("", "-", "-0", "00", "01", "-01", "+1", "1.0", "a", "A", " 1", "1 ", "1_0", "--1", "0x1", "1\n"):
            self.refused(NoPattern, number + ",0:A")
            self.refused(NoPattern, "0," + number + ":A")

    def test_missing_and_other_marks(self):
        for text in ("", ":", ",", ",:", "0", "0,0", "0,0A", "00:A", "0:A", "0 0:A", "0;0:A", "0,0;A", "A", "3A/B"):
            self.refused(NoPattern, text)
        for text in ("0,0,0:A", "0,0::A", "0,0:A:", "0,0:A,", "0:0,A", ":0,0A", "0,0 :A", "0,0: A", " 0,0:A", "0,0:A "):
            self.refused(NoPattern, text)

    def test_wrong_runs(self):
        for runs in ("1A", "0A", "02A", "2", "A2", "a", "H", "A A", "A\n", "\tA", "A-", "12345678901234A"):
            self.refused(NoPattern, "0,0:" + runs)

    def test_line_ends_and_tabs(self):
        text = "10,-2:3A/B"
        for sign in ("\n", "\t", " "):
            for place in range(len(text) + 1):
                self.refused(NoPattern, text[:place] + sign + text[place:])

    def test_what_is_no_text(self):
        for thing in (None, 0, 1, True, [], ["0,0:"], (), (0, 0, "A"), {}, 1.0, b"0,0:A"):
            self.refused(NoPattern, thing)

    def test_great_amounts(self):
        self.assertEqual(read_pattern(self.grove, "0,0:1099511627776A"), self.box((0, 0, LIMIT, 1), 1))
        field = read_pattern(self.grove, "-1099511627776,-1099511627776:" + "2199023255552C/" * 100)
        self.assertEqual(field, self.box((-LIMIT, -LIMIT, 2 * LIMIT, 100), 3))
        field = read_pattern(self.grove, "-1000000000000,5:" + "999999999999A1000000000000B/" * 60)
        whole = filled(self.grove, self.box((-(10**12), 5, 10**12 - 1, 60), 1), (-1, 5, 10**12, 60), 2)
        self.assertEqual(field, whole)

    def test_many_far_runs(self):
        field = read_pattern(self.grove, "1000000000000,-1000000000000:" + "AB" * 1200 + "/" + "C." * 1200)
        self.assertEqual(self.grove.living(field), 3600)

    def test_too_far(self):
        for text in (
            "1099511627776,0:A",
            "-1099511627777,0:A",
            "0,1099511627776:A",
            "0,-1099511627777:G",
            "1099511627775,0:2A",
            "0,0:1099511627777A",
            "-1099511627777,0:9A",
            "0,0:A1099511627775.B",
            "0,0:A1099511627776/B",
            "0,0:9999999999999A",
            "9999999999999,9999999999999:A",
        ):
            self.refused(TooFar, text)

    def test_going_outside_alone(self):
        self.told("1099511627775,0:A5.", [(LIMIT - 1, 0, 1)])
        self.told("0,0:A9999999999999.9999999999999./B", [(0, 0, 1), (0, 1, 2)])
        self.told("0,0:A9999999999999/9999999999999/9.", [(0, 0, 1)])
        self.told("-1099511627780,-1099511627778:2/4.A9999999999999.", [(-LIMIT, -LIMIT, 1)])

    def test_no_pattern_ahead_of_too_far(self):
        for text in ("1099511627776,0:A1", "1099511627776,0:A0A", "0,1099511627776:Ax", "0,1099511627776:A\n"):
            self.refused(NoPattern, text)
        self.refused(NoPattern, "1099511627776,-0:A")

    def test_a_refusal_changes_nothing(self):
        field = read_pattern(self.grove, "0,0:A")
        self.refused(TooFar, "0,0:A9999999999999.A")
        self.refused(NoPattern, "0,0:A1")
        self.assertEqual(read_pattern(self.grove, "0,0:A"), field)
        self.assertEqual(field, field_of(self.grove, [(0, 0, 1)]))


class ShownPatternTest(PatternsCase):
    def shown(self, cells, text):
        with self.subTest(text=text):
            field = field_of(self.grove, cells)
            self.assertEqual(shown_pattern(self.grove, field), text)
            self.assertEqual(read_pattern(self.grove, text), field)

    def test_none(self):
        self.shown([], "0,0:")
        self.shown([(5, 5, 1), (5, 5, 0)], "0,0:")

    def test_each_letter(self):
        for state in range(1, 8):
            self.shown([(0, 0, state)], "0,0:" + ".ABCDEFG"[state])

    def test_rows(self):
        self.shown([(2, 3, 1), (3, 3, 1), (5, 3, 2)], "2,3:2A.B")
        self.shown([(2, 3, 1), (1, 4, 2)], "1,3:.A/B")
        self.shown([(2, 3, 1), (2, 4, 2), (2, 9, 3)], "2,3:A/B5/C")
        self.shown([(-9, -9, 7), (-9, 9, 7), (9, -9, 6)], "-9,-9:G17.F18/G")
        self.shown([(0, 0, 1), (1, 0, 1), (2, 0, 1), (0, 1, 1)], "0,0:3A/A")
        self.shown([(0, 0, 1), (0, 1, 1), (1, 1, 1), (2, 1, 2), (3, 1, 1)], "0,0:A/2ABA")

    def test_left_is_that_of_the_box(self):
        self.shown([(10, 0, 1), (-10, 1, 1)], "-10,0:20.A/A")
        self.shown([(10, 0, 1), (11, 0, 1), (10, 7, 1), (12, 7, 2)], "10,0:2A7/A.B")

    def test_at_the_edges_of_the_ground(self):
        self.shown(
            [(-LIMIT, -LIMIT, 1), (LIMIT - 1, -LIMIT, 2), (-LIMIT, LIMIT - 1, 3), (LIMIT - 1, LIMIT - 1, 4)],
            "-1099511627776,-1099511627776:A2199023255550.B2199023255551/C2199023255550.D",
        )
        self.shown([(LIMIT - 1, LIMIT - 1, 1)], "1099511627775,1099511627775:A")

    def test_4096_and_4097(self):
        field = self.box((-3, 8, 64, 64), 5)
        text = "-3,8:" + "/".join(["64E"] * 64)
        self.assertEqual(shown_pattern(self.grove, field), text)
        self.assertEqual(read_pattern(self.grove, text), field)
        for more in (planted(self.grove, field, 0, 0, 1), self.box((0, 0, 4097, 1), 1), self.grove.solid(41, 1)):
            with self.assertRaises(FieldError) as caught:
                shown_pattern(self.grove, more)
            self.assertIs(caught.exception.__class__, TooMany)
        self.assertEqual(shown_pattern(self.grove, self.box((0, 0, 4096, 1), 1)), "0,0:4096A")

    def test_what_is_written_is_read_to_the_same_field(self):
        chance = chance_of("patterns")
        for reach in (1, 2, 5, 30, 10**6, LIMIT):
            for count in range(25):
                field = grown(self.grove, random_states(chance, chance.randrange(40), reach, chance.choice([1, 2, 7])))
                text = shown_pattern(self.grove, field)
                self.assertEqual(read_pattern(self.grove, text), field)
                self.assertEqual(shown_pattern(self.grove, read_pattern(self.grove, text)), text)
                rows = text.partition(":")[2]
                self.assertFalse(rows.endswith((".", "/")))
                self.assertNotIn("./", rows)
                self.assertNotIn("//", rows)


if __name__ == "__main__":
    unittest.main()
