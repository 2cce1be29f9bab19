import itertools
import unittest

from jumpfield.clauses import places_around
from jumpfield.errors import FieldError, NoRule, Restless
from jumpfield.rules import becomes, deciding, mirrored_rule, read_rule, shown_rule, turned_rule
from plain import LIFE, chance_of, random_rule, rule_makes

NOTHING = [0] * 8
THREE = "0 1=3 2=01 4; 4 ***1**** 2; * 0=78 0"
TEXTS = [
    "",
    "1 0",
    "* 0",
    LIFE,
    THREE,
    "1 1=0 2; 1 1=0 2; 1 1=0 2",
    "1 0; 1 0",
    "* 0=8 1=0 2=0 3=0 4=0 5=0 6=0 7=0 0",
    "1 0=012345678 ******** 1=012345678 2=0 01234567 7=8 ***2**** *******1 7",
    "0 1=123456 1",
    "5 76543210 6; 6 012345** **012345 5",
]
TURNED = [2, 4, 7, 1, 6, 0, 3, 5]
MIRRORED = [2, 1, 0, 4, 3, 7, 6, 5]


def put(around, order):
    return [around[number] for number in order]


def some_surroundings(chance, amount):
    made = [NOTHING, [1] * 8, [7] * 8, list(range(8))]
    for count in range(amount):
        top = chance.choice([1, 2, 7])
        made.append([chance.randint(0, top) for place in range(8)])
    return made


class ReadingTest(unittest.TestCase):
    def test_written_as_it_was_read(self):
        for text in TEXTS:
            with self.subTest(text=text):
                self.assertEqual(shown_rule(read_rule(text)), text)
                self.assertEqual(shown_rule(read_rule(shown_rule(read_rule(text)))), text)

    def test_some_texts_written_as_they_were_read(self):
        chance = chance_of("read rules")
        for count in range(200):
            text = random_rule(chance, chance.randrange(12))
            self.assertEqual(shown_rule(read_rule(text)), text)

    def test_many_clauses(self):
        text = "; ".join(["1 0"] * 1000)
        self.assertEqual(shown_rule(read_rule(text)), text)
        self.assertEqual(deciding(read_rule(text), 1, NOTHING), 0)
        self.assertIsNone(deciding(read_rule(text), 2, NOTHING))

    def test_written_with_up_to_eight_conditions(self):
        conditions = ["1=12", "***1****", "2=0", "0=012345678", "01234567", "7=8", "********", "3=3"]
        for amount in range(9):
            for chosen in (conditions[:amount], conditions[8 - amount :], ["1=1"] * amount):
                text = " ".join(["3"] + chosen + ["4"])
                self.assertEqual(shown_rule(read_rule(text)), text)


class DecidingTest(unittest.TestCase):
    def check(self, text, cell, around, number, state):
        with self.subTest(text=text, cell=cell, around=around):
            rule = read_rule(text)
            handed = list(around)
            for again in range(2):
                self.assertEqual(deciding(rule, cell, handed), number)
                self.assertEqual(becomes(rule, cell, handed), state)
            self.assertEqual(handed, around)

    def test_the_rule_without_clauses(self):
        for cell in range(8):
            for around in (NOTHING, [7] * 8, list(range(8))):
                self.check("", cell, around, None, cell)

    def test_none_fits(self):
        self.check("1 0", 2, NOTHING, None, 2)
        self.check("1 1=3 0", 1, NOTHING, None, 1)
        self.check("* ***1**** 0", 5, [1, 1, 1, 0, 1, 1, 1, 1], None, 5)

    def test_the_example(self):
        self.check(THREE, 0, [1, 1, 1, 0, 0, 0, 0, 0], 0, 4)
        self.check(THREE, 0, [1, 1, 1, 2, 0, 0, 0, 0], 0, 4)
        self.check(THREE, 0, [1, 1, 1, 2, 2, 0, 0, 0], None, 0)
        self.check(THREE, 4, [0, 0, 0, 1, 0, 0, 0, 0], 1, 2)
        self.check(THREE, 4, [0, 0, 0, 0, 1, 0, 0, 0], 2, 0)
        self.check(THREE, 4, [0, 0, 0, 0, 1, 1, 0, 0], None, 4)
        self.check(THREE, 7, NOTHING, 2, 0)

    def test_the_first_that_fits(self):
        text = "1 1=1 2; 1 1=12 3; 1 4; * 5=0 1=8 5; 1 6"
        self.check(text, 1, [1, 0, 0, 0, 0, 0, 0, 0], 0, 2)
        self.check(text, 1, [1, 1, 0, 0, 0, 0, 0, 0], 1, 3)
        self.check(text, 1, [1, 1, 1, 0, 0, 0, 0, 0], 2, 4)
        self.check(text, 1, [1] * 8, 2, 4)
        self.check(text, 2, [1] * 8, 3, 5)

    def test_a_clause_that_stands_twice(self):
        self.check("1 2=1 3; 1 2=1 3; 1 0", 1, [2, 0, 0, 0, 0, 0, 0, 0], 0, 3)
        self.check("1 2=1 3; 1 2=1 3; 1 0", 1, NOTHING, 2, 0)

    def test_a_cell_may_be_made_what_it_is(self):
        self.check(LIFE, 1, [1, 1, 0, 0, 0, 0, 0, 0], 1, 1)
        self.check(LIFE, 0, [1, 1, 0, 0, 0, 0, 0, 0], None, 0)

    def test_against_the_words_of_the_document(self):
        chance = chance_of("deciding")
        for count in range(60):
            text = random_rule(chance, chance.randrange(8), chance.choice(["01", "012", "01234567"]))
            rule = read_rule(text)
            for around in some_surroundings(chance, 25):
                for cell in range(8):
                    self.assertEqual(becomes(rule, cell, around), rule_makes(text, cell, around))
                    number = deciding(rule, cell, around)
                    if number is None:
                        self.assertEqual(becomes(rule, cell, around), cell)
                    else:
                        self.assertEqual(becomes(rule, cell, around), int(text.split("; ")[number][-1]))

    def test_two_rules_in_turn(self):
        first = read_rule("1 1=2 3; 1 0")
        second = read_rule("1 1=2 0; 1 4")
        around = [1, 1, 0, 0, 0, 0, 0, 0]
        for again in range(3):
            self.assertEqual((deciding(first, 1, around), becomes(first, 1, around)), (0, 3))
            self.assertEqual((deciding(second, 1, around), becomes(second, 1, around)), (0, 0))
            self.assertEqual((deciding(first, 1, NOTHING), becomes(first, 1, NOTHING)), (1, 0))
            self.assertEqual((deciding(second, 1, NOTHING), becomes(second, 1, NOTHING)), (1, 4))

    def test_the_same_list_with_other_states_in_it(self):
        rule = read_rule(LIFE)
        around = [1, 1, 1, 0, 0, 0, 0, 0]
        self.assertEqual(becomes(rule, 0, around), 1)
        around[0] = 0
        self.assertEqual(becomes(rule, 0, around), 0)
        around[7] = 1
        self.assertEqual(becomes(rule, 0, around), 1)


class TurnedTest(unittest.TestCase):
    def test_by_their_texts(self):
        self.assertEqual(shown_rule(turned_rule(read_rule("1 01234567 2"))), "1 24716035 2")
        self.assertEqual(shown_rule(mirrored_rule(read_rule("1 01234567 2"))), "1 21043765 2")
        self.assertEqual(shown_rule(turned_rule(read_rule(THREE))), "0 1=3 2=01 4; 4 ******1* 2; * 0=78 0")
        self.assertEqual(shown_rule(mirrored_rule(read_rule(THREE))), "0 1=3 2=01 4; 4 ****1*** 2; * 0=78 0")

    def test_all_conditions_on_places_alone(self):
        text = "3 0=123456 1******* 1=012345 *2****** 6=78 4; 3 0=012345 1=012345 5"
        self.assertEqual(
            shown_rule(turned_rule(read_rule(text))),
            "3 0=123456 *****1** 1=012345 ***2**** 6=78 4; 3 0=012345 1=012345 5",
        )
        self.assertEqual(
            shown_rule(mirrored_rule(read_rule(text))),
            "3 0=123456 **1***** 1=012345 *2****** 6=78 4; 3 0=012345 1=012345 5",
        )

    def test_without_conditions_on_places(self):
        for text in ("", LIFE, "1 0", "* 0=123456 1=012345 0"):
            self.assertEqual(shown_rule(turned_rule(read_rule(text))), text)
            self.assertEqual(shown_rule(mirrored_rule(read_rule(text))), text)

    def test_the_rule_itself_stays(self):
        rule = read_rule("1 01234567 2")
        turned_rule(rule)
        mirrored_rule(rule)
        self.assertEqual(shown_rule(rule), "1 01234567 2")
        self.assertEqual(becomes(rule, 1, list(range(8))), 2)

    def test_the_told_order_is_that_of_the_turned_plane(self):
        places = places_around(0, 0)
        # What is at (x, y) is at (y, -x) about a cell that is turned to the left, and at (-x, y) about a mirrored one.
        turned = {(y, -x): number for number, (x, y) in enumerate(places)}
        mirrored = {(-x, y): number for number, (x, y) in enumerate(places)}
        self.assertEqual([turned[place] for place in places], TURNED)
        self.assertEqual([mirrored[place] for place in places], MIRRORED)

    def test_by_what_they_do(self):
        chance = chance_of("turned rules")
        texts = TEXTS + [random_rule(chance, chance.randrange(8), "0123") for count in range(40)]
        for text in texts:
            rule = read_rule(text)
            turned = turned_rule(rule)
            mirrored = mirrored_rule(rule)
            for around in some_surroundings(chance, 20):
                for cell in range(8):
                    answer = (deciding(rule, cell, around), becomes(rule, cell, around))
                    left = put(around, TURNED)
                    other = put(around, MIRRORED)
                    self.assertEqual((deciding(turned, cell, left), becomes(turned, cell, left)), answer)
                    self.assertEqual((deciding(mirrored, cell, other), becomes(mirrored, cell, other)), answer)

    def test_four_times_and_twice(self):
        for text in TEXTS:
            rule = read_rule(text)
            four = turned_rule(turned_rule(turned_rule(turned_rule(rule))))
            twice = mirrored_rule(mirrored_rule(rule))
            self.assertEqual(shown_rule(four), text)
            self.assertEqual(shown_rule(twice), text)
            chance = chance_of(text)
            for around in some_surroundings(chance, 20):
                for cell in range(8):
                    self.assertEqual(becomes(four, cell, around), becomes(rule, cell, around))
                    self.assertEqual(becomes(twice, cell, around), becomes(rule, cell, around))

    def test_once_to_three_times_are_others(self):
        rule = read_rule("1 01234567 2")
        seen = [shown_rule(rule)]
        for count in range(3):
            rule = turned_rule(rule)
            seen.append(shown_rule(rule))
        self.assertEqual(len(set(seen)), 4)

    def test_turned_rules_are_written_and_read(self):
        for text in TEXTS:
            for rule in (turned_rule(read_rule(text)), mirrored_rule(read_rule(text))):
                self.assertEqual(shown_rule(read_rule(shown_rule(rule))), shown_rule(rule))


class NoRuleTest(unittest.TestCase):
    def refused(self, text, error=NoRule):
        with self.subTest(text=text):
            with self.assertRaises(FieldError) as caught:
                read_rule(text)
            self.assertIs(caught.exception.__class__, error)

    def test_what_is_no_text(self):
        for thing in (None, 0, 1, True, False, [], ["1 0"], (), ("1", "0"), {}, {"1 0": 1}, 1.0, b"1 0"):
            self.refused(thing)

    def test_fewer_than_two_words(self):
        for text in (" ", "0", "1", "*", ";", "; ", " ;", "; ; ", "1 0; ", "; 1 0", "1 0; 1", "1; 1 0", "1 0; ; 1 0"):
            self.refused(text)

    def test_the_mark_between_clauses(self):
        for text in ("1 0;2 0", "1 0 ;2 0", "1 0 ; 2 0", "1 0;  2 0", "1 0;\t2 0", "1 0;\n2 0", "1 0, 2 0"):
            self.refused(text)
        for text in ("1 0;; 2 0", "1 0;", "1 0; ", ";1 0", "; 1 0", "1 0 2 0", "1 02 0"):
            self.refused(text)

    def test_blanks(self):
        for text in (" 1 0", "1 0 ", "1  0", "1 0;  2 0", "1 0 ; 2 0", "1 1=3  0", "1 1= 3 0", "1 1 =3 0", "  "):
            self.refused(text)

    def test_line_ends_and_tabs(self):
        for sign in ("\n", "\t", "\r\n"):
            for place in range(len(THREE) + 1):
                self.refused(THREE[:place] + sign + THREE[place:])
            self.refused(sign)

    def test_a_sign_taken_out(self):
        # What is left of these is told by hand where it still is a rule.
        text = "1 1=3 0; 2 ***1**** 0"
        rules = []
        for place in range(len(text)):
            changed = text[:place] + text[place + 1 :]
            if self.is_rule_by_words(changed):
                rules.append(changed)
                self.assertEqual(shown_rule(read_rule(changed)), changed)
            else:
                self.refused(changed)
        self.assertEqual(rules, [])

    def test_a_sign_put_in_or_changed(self):
        text = "1 1=3 0; 2 ***1**** 0"
        signs = [chr(code) for code in range(32, 127) if chr(code) != "%"]
        counts = [0, 0]
        for sign, place in itertools.product(signs, range(len(text) + 1)):
            for changed in (text[:place] + sign + text[place:], text[:place] + sign + text[place + 1 :]):
                if self.is_rule_by_words(changed):
                    counts[0] += 1
                    self.assertEqual(shown_rule(read_rule(changed)), changed)
                else:
                    counts[1] += 1
                    self.refused(changed)
        self.assertGreater(counts[0], 100)
        self.assertGreater(counts[1], 3000)

    def is_rule_by_words(self, text):
        return text == "" or all(self.is_clause_by_words(clause) for clause in text.split("; "))

    def is_clause_by_words(self, text):
        words = text.split(" ")
        cells = [*"01234567*"]
        return (
            len(words) >= 2
            and words[0] in cells
            and words[-1] in cells[:-1]
            and all(self.is_condition_by_words(word) for word in words[1:-1])
        )

    def is_condition_by_words(self, word):
        if len(word) == 8 and all(sign in "01234567*" for sign in word):
            return True
        rows = ["".join(row) for length in range(1, 10) for row in itertools.combinations("012345678", length)]
        return len(word) > 2 and word[0] in "01234567" and word[1] == "=" and word[2:] in rows

    def test_one_wrong_clause_among_right_ones(self):
        for wrong in ("", "8 0", "1 8", "1 *", "1 1=21 0", "1 ******* 0", "1 1=9 0"):
            self.refused(f"{wrong}; 1 0; 2 0")
            self.refused(f"1 0; {wrong}; 2 0")
            self.refused(f"1 0; 2 0; {wrong}")


class RestlessTest(unittest.TestCase):
    def restless(self, text):
        with self.subTest(text=text):
            with self.assertRaises(FieldError) as caught:
                read_rule(text)
            self.assertIs(caught.exception.__class__, Restless)

    def test_through_the_first_clause(self):
        for text in ("0 1", "* 7", "0 0=8 1", "0 1=0 2=0 3", "0 00000000 1", "* ******** 1", "0 1=012345678 0=78 5"):
            self.restless(text)

    def test_through_a_later_clause(self):
        for text in ("1 0; 0 1", "0 1=3 1; * 2", "0 0=7 0; 0 0=6 0; 0 0=8 4", "1 2; 2 3; 3 4; * 1=0 1"):
            self.restless(text)

    def test_through_the_first_that_fits_alone(self):
        for text in ("0 0; 0 1", "* 0; 0 1", "0 0=8 0; * 7", "1 0; 0 ******** 0; * 5", "0 1=0 0; 0 1=012 3"):
            self.assertEqual(shown_rule(read_rule(text)), text)

    def test_nothing_with_a_neighbour_may_become_something(self):
        for text in ("0 0=01234567 1", "0 1=12345678 1", "* 1******* 3", "0 0000000* 0; 0 1"):
            self.assertEqual(shown_rule(read_rule(text)), text)

    def test_turned_ones_too(self):
        for text in ("0 0000000* 0; 0 1", "0 00000001 1", "1 5"):
            self.assertEqual(becomes(turned_rule(read_rule(text)), 0, NOTHING), 0)

    def test_no_rule_is_ahead(self):
        for text in ("0 1; ", "0 1;1 0", "0 1; 1", "0 1; 8 0", "0 1 ", " 0 1", "0 1\n"):
            with self.subTest(text=text):
                with self.assertRaises(FieldError) as caught:
                    read_rule(text)
                self.assertIs(caught.exception.__class__, NoRule)


if __name__ == "__main__":
    unittest.main()
