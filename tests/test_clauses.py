import itertools
import unittest

from jumpfield.clauses import is_state, places_around, read_clause
from jumpfield.errors import NoRule

NOTHING = [0, 0, 0, 0, 0, 0, 0, 0]


def with_amount(state, amount, other):
    return [state] * amount + [other] * (8 - amount)


def one_at(place, state, other):
    around = [other] * 8
    around[place] = state
    return around


class StatesTest(unittest.TestCase):
    def test_states(self):
        for thing in range(8):
            self.assertIs(is_state(thing), True)

    def test_other_things(self):
        for thing in (-1, 8, 9, 10**40, True, False, None, "", "0", "7", [], [1], (), (1,), {}, 1.0):
            with self.subTest(thing=thing):
                self.assertIs(is_state(thing), False)


class SurroundingsTest(unittest.TestCase):
    def test_order(self):
        self.assertEqual(
            places_around(0, 0),
            [(-1, -1), (0, -1), (1, -1), (-1, 0), (1, 0), (-1, 1), (0, 1), (1, 1)],
        )

    def test_about_another_place(self):
        self.assertEqual(
            places_around(10, -20),
            [(9, -21), (10, -21), (11, -21), (9, -20), (11, -20), (9, -19), (10, -19), (11, -19)],
        )

    def test_each_list_is_a_new_one(self):
        first = places_around(3, 4)
        kept = list(first)
        first.clear()
        self.assertEqual(places_around(3, 4), kept)


class ClauseTest(unittest.TestCase):
    def fits(self, text, cell, around):
        handed = list(around)
        answer = read_clause(text).fits(cell, handed)
        self.assertEqual(handed, around)
        self.assertIn(answer, (True, False))
        return answer

    def holds(self, text, cell, around):
        with self.subTest(text=text, cell=cell, around=around):
            self.assertTrue(self.fits(text, cell, around))

    def fails(self, text, cell, around):
        with self.subTest(text=text, cell=cell, around=around):
            self.assertFalse(self.fits(text, cell, around))

    def test_what_it_makes(self):
        for made in range(8):
            for middle in ("", "1=23 ", "***1**** ", "1=3 76543210 "):
                self.assertEqual(read_clause(f"0 {middle}{made}").makes, made)
                self.assertEqual(read_clause(f"* {middle}{made}").makes, made)

    def test_a_told_state_without_condition(self):
        for told in range(8):
            for cell in range(8):
                for around in (NOTHING, [0, 1, 2, 3, 4, 5, 6, 7], [7] * 8):
                    if cell == told:
                        self.holds(f"{told} 5", cell, around)
                    else:
                        self.fails(f"{told} 5", cell, around)

    def test_any_state_without_condition(self):
        for cell in range(8):
            for around in (NOTHING, [7, 6, 5, 4, 3, 2, 1, 0], [7] * 8):
                self.holds("* 5", cell, around)

    def test_one_amount(self):
        for state in range(8):
            other = (state + 3) % 8
            for told in range(9):
                for amount in range(9):
                    around = with_amount(state, amount, other)
                    check = self.holds if amount == told else self.fails
                    check(f"* {state}={told} 1", 0, around)
                    check(f"* {state}={told} 1", 0, around[::-1])

    def test_several_amounts(self):
        for numbers in ((0, 8), (2, 3), (0, 1), (7, 8), (1, 3, 5, 7), tuple(range(9))):
            told = "".join(str(number) for number in numbers)
            for amount in range(9):
                check = self.holds if amount in numbers else self.fails
                check(f"2 4={told} 1", 2, with_amount(4, amount, 0))
                self.fails(f"3 4={told} 1", 2, with_amount(4, amount, 0))

    def test_every_growing_row_of_amounts(self):
        for length in range(1, 10):
            for numbers in itertools.combinations("012345678", length):
                clause = read_clause("* 1=" + "".join(numbers) + " 1")
                for amount in range(9):
                    self.assertEqual(clause.fits(0, with_amount(1, amount, 0)), str(amount) in numbers)

    def test_amounts_count_the_neighbours_alone(self):
        self.fails("1 1=1 0", 1, NOTHING)
        self.holds("1 1=0 0", 1, NOTHING)
        self.holds("1 1=8 0", 1, [1] * 8)

    def test_an_amount_of_nothing(self):
        self.holds("* 0=78 0", 3, NOTHING)
        self.holds("* 0=78 0", 3, one_at(4, 5, 0))
        self.fails("* 0=78 0", 3, [0, 0, 0, 1, 0, 0, 2, 0])

    def test_one_told_place(self):
        for place in range(8):
            for told in range(8):
                text = "* " + "*" * place + str(told) + "*" * (7 - place) + " 1"
                for state in range(8):
                    check = self.holds if state == told else self.fails
                    check(text, 0, one_at(place, state, (told + 1) % 8))
                    check(text, 0, one_at(place, state, told))

    def test_any_at_one_place(self):
        for place in range(8):
            text = "* " + "2" * place + "*" + "2" * (7 - place) + " 1"
            for state in range(8):
                self.holds(text, 0, one_at(place, state, 2))
                for wrong in range(8):
                    if wrong != place:
                        around = one_at(place, state, 2)
                        around[wrong] = 3
                        self.fails(text, 0, around)

    def test_any_at_all_places(self):
        self.holds("0 ******** 1", 0, NOTHING)
        self.holds("0 ******** 1", 0, [0, 1, 2, 3, 4, 5, 6, 7])
        self.fails("0 ******** 1", 1, NOTHING)

    def test_all_places_told(self):
        told = [0, 1, 2, 3, 4, 5, 6, 7]
        self.holds("* 01234567 1", 0, told)
        for turned in range(1, 8):
            self.fails("* 01234567 1", 0, told[turned:] + told[:turned])
        for place in range(8):
            changed = list(told)
            changed[place] = (told[place] + 1) % 8
            self.fails("* 01234567 1", 0, changed)

    def test_places_lie_as_the_surroundings_do(self):
        # Each sign in the order of point 5, with the step to where its neighbour lies.
        steps = [(-1, -1), (0, -1), (1, -1), (-1, 0), (1, 0), (-1, 1), (0, 1), (1, 1)]
        for number, (dx, dy) in enumerate(steps):
            field = {(5 + dx, -3 + dy): 6}
            around = [field.get(place, 0) for place in places_around(5, -3)]
            for other in range(8):
                text = "0 " + "*" * other + "6" + "*" * (7 - other) + " 1"
                check = self.holds if other == number else self.fails
                check(text, 0, around)

    def test_several_conditions_must_all_hold(self):
        text = "0 1=3 2=01 4"
        self.holds(text, 0, [1, 1, 1, 0, 0, 0, 0, 0])
        self.holds(text, 0, [1, 0, 1, 2, 0, 0, 0, 1])
        self.fails(text, 0, [1, 1, 1, 2, 2, 0, 0, 0])
        self.fails(text, 0, [1, 1, 0, 2, 0, 0, 0, 0])
        self.fails(text, 1, [1, 1, 1, 0, 0, 0, 0, 0])

    def test_conditions_of_both_kinds_in_either_order(self):
        for text in ("4 ***1**** 1=2 2", "4 1=2 ***1**** 2"):
            self.holds(text, 4, [1, 0, 0, 1, 0, 0, 0, 0])
            self.fails(text, 4, [1, 1, 0, 0, 0, 0, 0, 0])
            self.fails(text, 4, [0, 0, 0, 1, 0, 0, 0, 0])
            self.fails(text, 3, [1, 0, 0, 1, 0, 0, 0, 0])

    def test_two_conditions_on_places(self):
        text = "* 1******* *******2 3"
        self.holds(text, 0, [1, 0, 0, 0, 0, 0, 0, 2])
        self.fails(text, 0, [1, 0, 0, 0, 0, 0, 0, 0])
        self.fails(text, 0, [0, 0, 0, 0, 0, 0, 0, 2])

    def test_two_conditions_on_one_state(self):
        self.holds("* 1=12 1=23 0", 0, with_amount(1, 2, 0))
        for amount in (0, 1, 3, 4, 8):
            self.fails("* 1=12 1=23 0", 0, with_amount(1, amount, 0))

    def test_many_conditions(self):
        text = "* " + "0=8 " * 500 + "1"
        self.holds(text, 0, NOTHING)
        self.fails("* " + "0=8 " * 500 + "0=7 1", 0, NOTHING)

    def test_a_clause_answers_anew_each_time(self):
        clause = read_clause("0 1=3 1")
        around = [1, 1, 1, 0, 0, 0, 0, 0]
        self.assertTrue(clause.fits(0, around))
        around[0] = 0
        self.assertFalse(clause.fits(0, around))
        around[7] = 1
        self.assertTrue(clause.fits(0, around))
        self.assertEqual(around, [0, 1, 1, 0, 0, 0, 0, 1])


class NoClauseTest(unittest.TestCase):
    def refused(self, text):
        with self.subTest(text=text):
            with self.assertRaises(NoRule) as caught:
                read_clause(text)
            self.assertIs(caught.exception.__class__, NoRule)

    def test_fewer_than_two_words(self):
        for text in ("", "0", "*", "7", "01", "1=3", "********", "0-1", "0\n1", "0\t1"):
            self.refused(text)

    def test_blanks(self):
        for text in (" ", "  ", "0 ", " 0", " 0 1", "0 1 ", "0  1", "0 1=3  1", "0  1=3 1", "0 1=3 1 ", "0 1= 3 1"):
            self.refused(text)

    def test_wrong_cells(self):
        for cell in ("8", "9", "-", "-1", "00", "01", "12", "**", "*0", "a", ".", "=", "+1", "0\n", "1=3"):
            self.refused(cell + " 1")
            self.refused(cell + " 1=3 1")

    def test_wrong_makes(self):
        for made in ("8", "9", "*", "-1", "00", "01", "12", "a", ";", "1;", "1\n", "\n1", "1\t", "1=3", "********"):
            self.refused("0 " + made)
            self.refused("0 1=3 " + made)

    def test_wrong_states_of_amounts(self):
        for state in ("8", "9", "*", "", "-1", "01", "12", "a", "="):
            self.refused(f"0 {state}=3 1")

    def test_wrong_numbers_of_amounts(self):
        for numbers in ("", "9", "39", "-1", "*", "a", "1,2", "1-3", "=3", "3=", "3=3", "1;", "3\n"):
            self.refused(f"0 1={numbers} 1")

    def test_numbers_that_do_not_grow(self):
        for numbers in ("00", "11", "88", "10", "80", "32", "121", "122", "0123456788", "876543210", "0123456780"):
            self.refused(f"0 1={numbers} 1")
        for first, second in itertools.product("012345678", repeat=2):
            if first >= second:
                self.refused(f"0 1={first}{second} 1")

    def test_wrong_number_of_signs_for_places(self):
        for amount in (1, 2, 6, 7, 9, 10, 16):
            self.refused("0 " + "*" * amount + " 1")
            self.refused("0 " + "0" * amount + " 1")

    def test_wrong_signs_for_places(self):
        for sign in ("8", "9", "-", ".", "a", "A", "=", ";", "\n", "\t", "+"):
            for place in range(8):
                self.refused("0 " + "*" * place + sign + "*" * (7 - place) + " 1")
                self.refused("0 " + "1" * place + sign + "2" * (7 - place) + " 1")

    def test_one_wrong_condition_among_right_ones(self):
        for wrong in ("1=", "1=32", "*******", "x", "3", "*"):
            self.refused(f"0 {wrong} 1=3 ***1**** 1")
            self.refused(f"0 1=3 {wrong} ***1**** 1")
            self.refused(f"0 1=3 ***1**** {wrong} 1")

    def test_several_clauses_are_none(self):
        for text in ("0 1; 1 0", "0 1;1 0", "0 1;", "; 0 1", "0 1=3 2=01 4; 4 ***1**** 2; * 0=78 0"):
            self.refused(text)

    def test_what_is_no_text(self):
        for thing in (0, 1, True, None, [], ["0", "1"], (), ("0", "1"), {}, {"0": "1"}, 1.0, b"0 1"):
            self.refused(thing)

    def test_what_is_handed_in_stays(self):
        words = ["0", "1=3", "1"]
        self.refused(words)
        self.assertEqual(words, ["0", "1=3", "1"])


if __name__ == "__main__":
    unittest.main()
