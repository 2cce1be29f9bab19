import unittest

from jumpfield.errors import (
    FieldError,
    NoBox,
    NoName,
    NoNumber,
    NoPattern,
    NoRow,
    NoRule,
    NoState,
    NoSteps,
    Restless,
    TooFar,
    TooMany,
)
from jumpfield.world import World
from plain import LIFE

GLIDER = "0,0:.A/2.A/3A"
# A right row for each first word, fields a and b being there.
ROWS = {
    "copy": "copy c a",
    "lay": "lay c a b",
    "drop": "drop a",
    "put": "put a 1 2 3",
    "fill": "fill a 0 0 2 2 3",
    "cut": "cut a 0 0 2 2",
    "turn": "turn a",
    "mirror": "mirror a",
    "move": "move a 1 2",
    "jump": "jump a 1",
    "show": "show a",
    "count": "count a",
    "cell": "cell a 1 2",
    "same": "same a b",
    "again": "again a 5",
}
NO_NAMES = ("", "A", "aB", "a1", "1", "abcdefghi", "a-b", "a.b", "_", "a\n", "a\t", "-", "0", "aa,")
NO_NUMBERS = ("", "-", "-0", "00", "01", "1.0", "+1", "a", "--1", "1_0", "1\n", "9" * 31)
FAR = "1099511627776"


class WorldCase(unittest.TestCase):
    def setUp(self):
        self.world = World()

    def says(self, row, answer="ok"):
        with self.subTest(row=row):
            told = self.world.say(row)
            self.assertIs(told.__class__, str)
            self.assertEqual(told, answer)

    def refused(self, error, row):
        with self.subTest(row=row):
            with self.assertRaises(FieldError) as caught:
                self.world.say(row)
            self.assertIs(caught.exception.__class__, error)

    def two_fields(self):
        self.says("field a 0,0:AB/C")
        self.says("field b 1,0:G")


class RowsTest(WorldCase):
    def test_field_and_show(self):
        self.says("field a 5,5:AB//C")
        self.says("show a", "5,5:AB2/C")
        self.says("field b 0,0:")
        self.says("show b", "0,0:")
        self.says("field a -3,4:2.3G")
        self.says("show a", "-1,4:3G")

    def test_copy(self):
        self.two_fields()
        self.says("copy c a")
        self.says("show c", "0,0:AB/C")
        self.says("put c 0 0 7")
        self.says("show a", "0,0:AB/C")
        self.says("show c", "0,0:GB/C")
        self.says("copy b a")
        self.says("same a b", "yes")
        self.says("copy a a")
        self.says("show a", "0,0:AB/C")

    def test_lay(self):
        self.two_fields()
        self.says("lay c a b")
        self.says("show c", "0,0:AG/C")
        self.says("lay d b a")
        self.says("show d", "0,0:AB/C")
        self.says("lay a a b")
        self.says("show a", "0,0:AG/C")
        self.says("show b", "1,0:G")

    def test_drop(self):
        self.two_fields()
        self.says("copy c a")
        self.says("drop a")
        self.refused(NoName, "show a")
        self.refused(NoName, "drop a")
        self.says("show c", "0,0:AB/C")
        self.says("field a 0,0:D")
        self.says("show a", "0,0:D")

    def test_put(self):
        self.says("field a 0,0:A")
        self.says("put a -1 5 4")
        self.says("show a", "-1,0:.A5/D")
        self.says("put a 0 0 0")
        self.says("show a", "-1,5:D")

    def test_fill(self):
        self.says("field a 0,0:A")
        self.says("fill a -1 -1 2 3 2")
        self.says("show a", "-1,-1:2B/2B/2B")
        self.says("fill a 0 0 1 1 0")
        self.says("show a", "-1,-1:2B/B/2B")
        self.says("fill a 50 50 0 9 7")
        self.says("count a", "5")
        self.says("fill a 3 -9 4 2 6")
        self.says("cut a 2 -20 90 19")
        self.says("show a", "3,-9:4F/4F")
        self.says("fill a -1099511627776 -1099511627776 2199023255552 2199023255552 1")
        self.says("count a", str(4**41))

    def test_cut(self):
        self.says("field a 0,0:5A/5B/5C")
        self.says("cut a 1 1 2 9")
        self.says("show a", "1,1:2B/2C")
        self.says("cut a 0 2 2 5")
        self.says("show a", "1,2:C")
        self.says("cut a 1 1 0 0")
        self.says("show a", "0,0:")

    def test_turn_and_mirror(self):
        self.says("field a 5,2:A")
        self.says("turn a")
        self.says("show a", "2,-6:A")
        self.says("mirror a")
        self.says("show a", "-3,-6:A")

    def test_move(self):
        self.says("field a 5,2:AB")
        self.says("move a -10 3")
        self.says("show a", "-5,5:AB")
        self.says("move a 0 0")
        self.says("show a", "-5,5:AB")

    def test_count_and_cell(self):
        self.says("field a 5,2:AB.G")
        self.says("count a", "3")
        self.says("cell a 5 2", "1")
        self.says("cell a 8 2", "7")
        self.says("cell a 7 2", "0")
        self.says("cell a -999999999999999999999999999999 2", "0")
        self.says("field b 0,0:")
        self.says("count b", "0")

    def test_same(self):
        self.says("field a 0,0:AB")
        self.says("field b 0,0:A")
        self.says("same a b", "no")
        self.says("put b 1 0 2")
        self.says("same a b", "yes")
        self.says("same b a", "yes")
        self.says("same a a", "yes")
        self.says("move b 1 0")
        self.says("same a b", "no")

    def test_the_rule_at_first(self):
        self.says("field a 0,0:ABC")
        self.says("jump a 1000")
        self.says("show a", "0,0:ABC")
        self.says("again a 1", "0 1 0 0 still")

    def test_rule_and_jump(self):
        self.says(f"rule {LIFE}")
        self.says(f"field a {GLIDER}")
        self.says("jump a 0")
        self.says("show a", GLIDER)
        self.says("jump a 400000000000")
        self.says("show a", "100000000000,100000000000:.A/2.A/3A")

    def test_the_text_without_signs_as_a_rule(self):
        self.says("rule 1 0")
        self.says("field a 0,0:A")
        self.says("rule ")
        self.says("jump a 5")
        self.says("show a", "0,0:A")
        self.refused(NoRow, "rule")

    def test_a_change_of_rule_between_jumps(self):
        self.says("field a 0,0:3A")
        self.says(f"rule {LIFE}")
        self.says("jump a 1")
        self.says("show a", "1,-1:A/A/A")
        self.says("rule 1 2; 2 3; 3 1")
        self.says("jump a 1")
        self.says("show a", "1,-1:B/B/B")
        self.says("jump a 5")
        self.says("show a", "1,-1:A/A/A")
        self.says(f"rule {LIFE}")
        self.says("jump a 1")
        self.says("show a", "0,0:3A")
        self.says("rule ")
        self.says("jump a 1")
        self.says("show a", "0,0:3A")
        self.says("rule * 0")
        self.says("jump a 1")
        self.says("show a", "0,0:")

    def test_again(self):
        self.says(f"rule {LIFE}")
        self.says(f"field a {GLIDER}")
        self.says("again a 4", "0 4 1 1 gliding")
        self.says("again a 3", "none")
        self.says("again a 0", "none")
        self.says("mirror a")
        self.says("again a 100", "0 4 -1 1 gliding")
        self.says("field b 0,0:3A")
        self.says("again b 9", "0 2 0 0 swinging")
        self.says("field c 0,0:2A/A")
        self.says("again c 9", "1 1 0 0 still")
        self.says("field d 0,0:A")
        self.says("again d 9", "1 1 0 0 still")
        self.says("show b", "0,0:3A")

    def test_names(self):
        for name in ("a", "z", "abcdefgh", "zzzzzzzz", "rule", "show", "again", "ok"):
            self.says(f"field {name} 0,0:A")
            self.says(f"show {name}", "0,0:A")

    def test_numbers_of_thirty_figures(self):
        self.two_fields()
        long = "9" * 30
        self.refused(TooFar, f"put a {long} 0 1")
        self.refused(NoState, f"put a 0 0 {long}")
        self.says(f"cut a -{long} -{long} {long} {long}")
        self.says("show a", "0,0:")
        self.says(f"jump a {long}")
        self.says(f"move a -{long} {long}")

    def test_two_worlds(self):
        other = World()
        self.says("field a 0,0:A")
        self.assertEqual(other.say("field a 0,0:B"), "ok")
        self.assertEqual(other.say("rule 2 3"), "ok")
        self.says("jump a 1")
        self.says("show a", "0,0:A")
        self.assertEqual(other.say("jump a 1"), "ok")
        self.assertEqual(other.say("show a"), "0,0:C")


class RefusalsTest(WorldCase):
    def setUp(self):
        super().setUp()
        self.two_fields()

    def tearDown(self):
        # What is refused changes nothing.
        self.says("show a", "0,0:AB/C")
        self.says("show b", "1,0:G")
        self.refused(NoName, "show c")

    def test_what_is_no_text(self):
        for thing in (None, 0, 1, True, [], ["show", "a"], (), ("show a",), {}, 1.0, b"show a"):
            self.refused(NoRow, thing)

    def test_no_first_word(self):
        for row in ("", " ", "  ", "a", "hello", "Show a", "SHOW a", "shows a", "show\ta", "show\na", " show a", "ok"):
            self.refused(NoRow, row)
        self.refused(NoRow, "rules ")

    def test_a_word_too_few_and_too_many(self):
        for row in ROWS.values():
            words = row.split(" ")
            for length in range(1, len(words)):
                self.refused(NoRow, " ".join(words[:length]))
            self.refused(NoRow, row + " 1")
            self.refused(NoRow, row + " a")
            self.refused(NoRow, row + " ")
            self.refused(NoRow, " " + row)
            for place in range(1, len(words)):
                self.refused(NoRow, " ".join(words[:place]) + "  " + " ".join(words[place:]))

    def test_no_row_ahead_of_all_else(self):
        for row in ("show A b", "put X 1 2 3 4", "put a x y", "jump q", "move a 1 2 3", "copy 1", "fill a 0 0 -1 -1"):
            self.refused(NoRow, row)

    def test_no_text_where_one_belongs(self):
        for row in ("rule", "field", "field c", "field ", "field a"):
            self.refused(NoRow, row)

    def test_a_text_is_all_that_follows(self):
        self.refused(NoRule, "rule  1 0")
        self.refused(NoRule, "rule 1 0 ")
        self.refused(NoRule, "rule  ")
        self.refused(NoPattern, "field c ")
        self.refused(NoPattern, "field c  0,0:A")
        self.refused(NoPattern, "field c 0,0:A ")
        self.refused(NoPattern, "field c 0,0:A b")
        self.refused(NoPattern, "field a ")

    def test_blanks_side_by_side_make_a_word(self):
        self.refused(NoName, "show ")
        self.refused(NoName, "turn ")
        self.refused(NoName, "jump  1")
        self.refused(NoNumber, "jump a ")
        self.refused(NoNumber, "put a  2 3")
        self.refused(NoNumber, "put a 1 2 ")
        self.refused(NoName, "same a ")
        self.refused(NoName, "field  0,0:A")
        self.refused(NoName, "copy  a")

    def test_no_names(self):
        for name in NO_NAMES:
            self.refused(NoName, f"field {name} 0,0:A")
            self.refused(NoName, f"copy {name} a")
            self.refused(NoName, f"copy c {name}")
            self.refused(NoName, f"lay {name} a b")
            self.refused(NoName, f"lay c {name} b")
            self.refused(NoName, f"lay c a {name}")
            self.refused(NoName, f"same {name} a")
            self.refused(NoName, f"same a {name}")
            for first, row in ROWS.items():
                if first not in ("copy", "lay"):
                    self.refused(NoName, row.replace(" a", " " + name, 1))

    def test_names_by_which_no_field_stands(self):
        for name in ("c", "aa", "ab", "abcdefgh"):
            self.refused(NoName, f"copy c {name}")
            self.refused(NoName, f"lay c {name} b")
            self.refused(NoName, f"lay c a {name}")
            self.refused(NoName, f"same a {name}")
            for first, row in ROWS.items():
                if first not in ("copy", "lay"):
                    self.refused(NoName, row.replace(" a", " " + name, 1))

    def test_no_numbers(self):
        for first, row in ROWS.items():
            words = row.split(" ")
            for place, word in enumerate(words):
                if word.isdigit():
                    for number in NO_NUMBERS:
                        self.refused(NoNumber, " ".join(words[:place] + [number] + words[place + 1 :]))

    def test_from_the_left(self):
        self.refused(NoName, "put q x 2 3")
        self.refused(NoName, "jump A x")
        self.refused(NoNumber, f"put a {FAR} x 3")
        self.refused(NoNumber, f"put a {FAR} 0 x")
        self.refused(NoNumber, "fill a 0 0 -1 2 x")
        self.refused(NoNumber, "cut a 0 0 -1 x")
        self.refused(NoNumber, f"move a {FAR} x")
        self.refused(NoName, "field A x")
        self.refused(NoName, "field abcdefghi 1099511627776,0:A")
        self.refused(NoName, "same q A")

    def test_the_deeds(self):
        self.refused(TooFar, f"put a {FAR} 0 1")
        self.refused(TooFar, f"put a {FAR} 0 9")
        self.refused(NoState, "put a 0 0 8")
        self.refused(NoState, "put a 0 0 -1")
        self.refused(NoBox, "fill a 0 0 -1 2 9")
        self.refused(NoBox, f"fill a {FAR} 0 2 -1 1")
        self.refused(TooFar, f"fill a {FAR} 0 2 1 9")
        self.refused(NoState, "fill a 0 0 2 1 9")
        self.refused(NoState, f"fill a {FAR} 0 0 1 9")
        self.refused(NoBox, "cut a 0 0 -1 2")
        self.refused(TooFar, f"move a {FAR} 0")
        self.refused(TooFar, f"move a 0 -{FAR}0")
        self.refused(NoSteps, "jump a -1")
        self.refused(TooFar, f"jump a {FAR}")
        self.refused(NoSteps, "again a -1")

    def test_the_deed_of_again(self):
        self.says("copy d b")
        self.says("move d 1099511627774 0")
        self.refused(TooFar, "again d 1")
        self.says("again d 0", "none")
        self.says("show d", "1099511627775,0:G")

    def test_too_many(self):
        self.says("copy d a")
        self.says("fill d 0 0 100 100 1")
        self.refused(TooMany, "show d")
        self.says("count d", "10000")

    def test_patterns(self):
        for text in ("0,0", "A", "0,0:1A", "-0,0:A", "x", "0,0:a"):
            self.refused(NoPattern, f"field c {text}")
            self.refused(NoPattern, f"field a {text}")
        self.refused(TooFar, f"field c {FAR},0:A")
        self.refused(TooFar, f"field a {FAR},0:A")
        self.refused(NoPattern, f"field a {FAR},0:A1")

    def test_rules(self):
        self.says("rule 3 4")
        for text in ("1", "1 0;", "1 0;2 0", "8 0", "0 1; 1", "x"):
            self.refused(NoRule, f"rule {text}")
        for text in ("0 1", "* 1", "1 0; 0 0=8 3"):
            self.refused(Restless, f"rule {text}")
        self.says("copy d a")
        self.says("jump d 1")
        self.says("show d", "0,0:AB/D")


if __name__ == "__main__":
    unittest.main()
