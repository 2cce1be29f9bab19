import itertools
import unittest

from jumpfield.errors import FieldError, NoLevel, NoSquare, NoSteps
from jumpfield.grove import Grove
from jumpfield.jumps import Jumps
from jumpfield.rules import read_rule
from plain import LIFE, around_of, cells_in, chance_of, random_rule, rule_makes, square_of, steps

NO_NUMBERS = (True, False, None, "", "0", (), (0,), [], 1.0, -1, 10**9, 10**299)
NO_WHOLES = (True, False, None, "", "0", (), (0,), [], 1.0, 0.0)
ROUND = "1 2; 2 3; 3 1; 4 5; 5 4"


def random_square(chance, grove, level, states=7, amount=None):
    size = 2**level
    if amount is None:
        amount = chance.randrange(size * size)
    found = {
        (chance.randrange(size), chance.randrange(size)): chance.randrange(1, states + 1) for count in range(amount)
    }
    return square_of(grove, level, found)


def middle_by_steps(grove, text, square, amount):
    """What lives in the middle behind some plain steps, told from the middle's upper left cell on."""
    quarter = 2 ** (grove.level_of(square) - 2)
    states = steps(text, cells_in(grove, square), amount)
    return {
        (x - quarter, y - quarter): state
        for (x, y), state in states.items()
        if quarter <= x < 3 * quarter and quarter <= y < 3 * quarter
    }


def grid_of(grove, square):
    """The sixteen quarters of a square's quarters, as they lie."""
    quarters = [grove.quarters(quarter) for quarter in grove.quarters(square)]
    return [
        [quarters[2 * (y // 2) + x // 2][2 * (y % 2) + x % 2] for x in range(4)]
        for y in range(4)
    ]


def parts_of(grove, square):
    grid = grid_of(grove, square)
    return [
        grove.joined(grid[y][x], grid[y][x + 1], grid[y + 1][x], grid[y + 1][x + 1]) for y in range(3) for x in range(3)
    ]


class JumpsCase(unittest.TestCase):
    def setUp(self):
        self.grove = Grove()

    def refused(self, error, deed, *things):
        with self.subTest(deed=deed.__name__, things=things):
            with self.assertRaises(FieldError) as caught:
                deed(*things)
            self.assertIs(caught.exception.__class__, error)


class AfterTest(JumpsCase):
    def check(self, jumps, text, square, e):
        level = self.grove.level_of(square)
        result = jumps.after(square, e)
        self.assertEqual(self.grove.level_of(result), level - 1)
        self.assertEqual(cells_in(self.grove, result), middle_by_steps(self.grove, text, square, 2**e))
        self.assertEqual(jumps.after(square, e), result)

    def test_its_grove(self):
        jumps = Jumps(self.grove, read_rule(LIFE))
        self.assertIs(jumps.grove, self.grove)
        jumps.change(read_rule(""))
        self.assertIs(jumps.grove, self.grove)

    def test_level_2_against_the_rule(self):
        chance = chance_of("level 2")
        for count in range(60):
            top = chance.choice([1, 2, 7])
            text = random_rule(chance, chance.randrange(8), "01234567"[: top + 1])
            jumps = Jumps(self.grove, read_rule(text))
            for again in range(12):
                states = {place: chance.randint(0, top) for place in itertools.product(range(4), repeat=2)}
                square = square_of(self.grove, 2, states)
                made = [rule_makes(text, states[(x, y)], around_of(states, x, y)) for y in (1, 2) for x in (1, 2)]
                leaves = [self.grove.leaf(state) for state in made]
                self.assertEqual(jumps.after(square, 0), self.grove.joined(*leaves))

    def test_each_place_of_a_level_2_square(self):
        # Each clause asks one neighbour alone, so each of the sixteen places must be looked at where it lies.
        for number in range(8):
            text = "0 " + "*" * number + "1" + "*" * (7 - number) + " 2; 1 0"
            jumps = Jumps(self.grove, read_rule(text))
            for place in itertools.product(range(4), repeat=2):
                self.check(jumps, text, square_of(self.grove, 2, {place: 1}), 0)

    def test_levels_3_and_4_against_plain_steps(self):
        chance = chance_of("levels 3 and 4")
        for count in range(24):
            text = LIFE if count % 4 == 0 else random_rule(chance, chance.randrange(1, 8), "0123")
            jumps = Jumps(self.grove, read_rule(text))
            for level in (3, 4):
                square = random_square(chance, self.grove, level, 3)
                order = list(range(level - 1))
                chance.shuffle(order)
                for e in order:
                    self.check(jumps, text, square, e)

    def test_levels_5_and_6(self):
        chance = chance_of("levels 5 and 6")
        for text in (LIFE, "0 1=2 1; 1 2; 2 0", random_rule(chance, 6, "0123")):
            jumps = Jumps(self.grove, read_rule(text))
            for level in (5, 6):
                square = random_square(chance, self.grove, level, 2, 4 ** (level - 1))
                for e in range(level - 1):
                    self.check(jumps, text, square, e)

    def test_without_living_cells(self):
        for text in ("", LIFE, "0 1=12345678 1"):
            jumps = Jumps(self.grove, read_rule(text))
            for level in range(2, 49):
                for e in (0, (level - 2) // 2, level - 2):
                    self.assertEqual(jumps.after(self.grove.solid(level, 0), e), self.grove.solid(level - 1, 0))

    def test_the_rule_without_clauses_tells_the_middle(self):
        jumps = Jumps(self.grove, read_rule(""))
        chance = chance_of("the middle")
        for level in (2, 3, 5):
            square = random_square(chance, self.grove, level)
            for e in range(level - 1):
                self.check(jumps, "", square, e)

    def test_solid_squares_of_all_levels(self):
        jumps = Jumps(self.grove, read_rule(ROUND))
        for level in range(2, 49):
            for e in sorted({0, 1, level // 2, level - 3, level - 2}):
                if 0 <= e <= level - 2:
                    for state in (1, 2, 3):
                        made = 1 + (state - 1 + 2**e) % 3
                        result = jumps.after(self.grove.solid(level, state), e)
                        self.assertEqual(result, self.grove.solid(level - 1, made))
                    made = 5 if e == 0 else 4
                    result = jumps.after(self.grove.solid(level, 4), e)
                    self.assertEqual(result, self.grove.solid(level - 1, made))

    def test_great_squares_with_few_unlike_ones(self):
        # All columns swing alike: each second cell lives, and the living ones change places with the others.
        jumps = Jumps(self.grove, read_rule("1 0; 0 ****1*** 1"))
        chequers = {1: self.grove.joined(*[self.grove.leaf(state) for state in (1, 0, 1, 0)])}
        others = {1: self.grove.joined(*[self.grove.leaf(state) for state in (0, 1, 0, 1)])}
        for level in range(2, 49):
            chequers[level] = self.grove.joined(*[chequers[level - 1]] * 4)
            others[level] = self.grove.joined(*[others[level - 1]] * 4)
        for level in (3, 4, 20, 47, 48):
            for e in (0, 1, level - 3, level - 2):
                # The middle of a square of a level from 3 on begins at an even place.
                kept = others if e == 0 else chequers
                self.assertEqual(jumps.after(chequers[level], e), kept[level - 1])

    def test_a_growing_one_in_a_great_square(self):
        jumps = Jumps(self.grove, read_rule("0 1=12345678 1"))
        for level in (10, 30, 48):
            half = 2 ** (level - 1)
            square = square_of(self.grove, level, {(half, half): 1})
            for e in (0, 5, level - 3):
                result = jumps.after(square, e)
                self.assertEqual(self.grove.living(result), (2 * 2**e + 1) ** 2)
                quarter = 2 ** (level - 2)
                left = quarter - 2**e
                self.assertEqual(self.grove.span(result), (left, left, 2 * 2**e + 1, 2 * 2**e + 1))
            self.assertEqual(jumps.after(square, level - 2), self.grove.solid(level - 1, 1))

    def test_several_on_one_grove(self):
        chance = chance_of("several")
        texts = [LIFE, "1 0", "", "0 1=2 1; 1 2; 2 0", LIFE]
        all_jumps = [Jumps(self.grove, read_rule(text)) for text in texts]
        for count in range(6):
            square = random_square(chance, self.grove, 4, 2)
            for e in (2, 0, 1):
                for text, jumps in zip(texts, all_jumps):
                    self.check(jumps, text, square, e)

    def test_change_of_rule_and_back(self):
        chance = chance_of("change")
        jumps = Jumps(self.grove, read_rule(LIFE))
        squares = [random_square(chance, self.grove, 4, 2) for count in range(4)]
        other = Jumps(self.grove, read_rule(LIFE))
        for text in (LIFE, "1 0", LIFE, "0 1=2 1; 1 2; 2 0", "", "1 0", LIFE, "1 2; 2 1", LIFE):
            self.assertIsNone(jumps.change(read_rule(text)))
            for square in squares:
                for e in range(3):
                    self.check(jumps, text, square, e)
                    self.check(other, LIFE, square, e)

    def test_no_square(self):
        jumps = Jumps(self.grove, read_rule(LIFE))
        for thing in NO_NUMBERS:
            for e in (0, -1, None, 99):
                self.refused(NoSquare, jumps.after, thing, e)
                self.refused(NoSquare, jumps.reasons, thing, e)

    def test_no_level(self):
        jumps = Jumps(self.grove, read_rule(LIFE))
        for level in (0, 1):
            for state in (0, 1):
                square = self.grove.solid(level, state)
                for e in (0, -1, -2, None, True, 99):
                    self.refused(NoLevel, jumps.after, square, e)
                    self.refused(NoLevel, jumps.reasons, square, e)

    def test_no_steps(self):
        jumps = Jumps(self.grove, read_rule(LIFE))
        for level in (2, 3, 4, 20, 48):
            for state in (0, 1):
                square = self.grove.solid(level, state)
                for e in NO_WHOLES + (-1, -2, level - 1, level, 10**30):
                    self.refused(NoSteps, jumps.after, square, e)
                    self.refused(NoSteps, jumps.reasons, square, e)


class ReasonsTest(JumpsCase):
    def rests_on(self, jumps, square, e):
        """What a tuple rests on by the document's words, as pairs of a square and an e."""
        grove = self.grove
        level = grove.level_of(square)
        if level == 2:
            return set()
        parts = parts_of(grove, square)
        if e < level - 2:
            return {(part, e) for part in parts}
        nine = [jumps.after(part, e - 1) for part in parts]
        four = [grove.joined(nine[n], nine[n + 1], nine[n + 3], nine[n + 4]) for n in (0, 1, 3, 4)]
        return {(part, e - 1) for part in parts + four}

    def quarters_by_words(self, jumps, square, e):
        """The quarters of a result, put together of the results that it rests on."""
        grove = self.grove
        level = grove.level_of(square)
        parts = parts_of(grove, square)
        lower = e if e < level - 2 else e - 1
        nine = [jumps.after(part, lower) for part in parts]
        fours = [(nine[n], nine[n + 1], nine[n + 3], nine[n + 4]) for n in (0, 1, 3, 4)]
        if e == level - 2:
            return tuple(jumps.after(grove.joined(*four), lower) for four in fours)
        return tuple(
            grove.joined(*[grove.quarters(one)[3 - place] for place, one in enumerate(four)]) for four in fours
        )

    def check(self, jumps, square, e):
        told = jumps.reasons(square, e)
        self.assertIs(told.__class__, list)
        self.assertEqual(told[-1], (square, e, jumps.after(square, e)))
        self.assertEqual(len(set(told)), len(told))
        needed = {(square, e)}
        ahead = set()
        for one, power, result in told:
            self.assertEqual(result, jumps.after(one, power))
            below = self.rests_on(jumps, one, power)
            self.assertLessEqual(below, ahead)
            needed |= below
            ahead.add((one, power))
            if self.grove.level_of(one) > 2:
                self.assertEqual(self.grove.quarters(result), self.quarters_by_words(jumps, one, power))
        self.assertEqual(ahead, needed)
        self.assertEqual(jumps.reasons(square, e), told)
        return told

    def test_level_2(self):
        jumps = Jumps(self.grove, read_rule(LIFE))
        chance = chance_of("reasons of level 2")
        for count in range(10):
            square = random_square(chance, self.grove, 2, 1)
            self.assertEqual(jumps.reasons(square, 0), [(square, 0, jumps.after(square, 0))])

    def test_levels_3_to_5(self):
        chance = chance_of("reasons")
        for text in (LIFE, "", "1 0", "0 1=2 1; 1 2; 2 0", random_rule(chance, 6, "0123")):
            jumps = Jumps(self.grove, read_rule(text))
            for level in (3, 4, 5):
                for e in range(level - 1):
                    for amount in (None, 3, 0):
                        self.check(jumps, random_square(chance, self.grove, level, 2, amount), e)

    def test_before_any_other_question(self):
        for level in (2, 3, 4, 5):
            for e in range(level - 1):
                grove = Grove()
                square = random_square(chance_of("first question"), grove, level, 1)
                fresh = Jumps(grove, read_rule(LIFE)).reasons(square, e)
                asked = Jumps(grove, read_rule(LIFE))
                for power in range(level - 1):
                    asked.after(square, power)
                self.assertEqual(set(asked.reasons(square, e)), set(fresh))

    def test_great_levels(self):
        jumps = Jumps(self.grove, read_rule(ROUND))
        for level in (20, 47, 48):
            for state in (0, 1):
                square = self.grove.solid(level, state)
                for e in (0, 3, level - 2):
                    self.check(jumps, square, e)
        self.assertEqual(len(jumps.reasons(self.grove.solid(48, 0), 46)), 47)
        self.assertEqual(len(jumps.reasons(self.grove.solid(48, 0), 0)), 47)

    def test_behind_a_change_of_rule(self):
        chance = chance_of("reasons and change")
        square = random_square(chance, self.grove, 4, 2)
        jumps = Jumps(self.grove, read_rule(LIFE))
        for text in (LIFE, "1 0", "0 1=2 1; 1 2; 2 0", LIFE, "1 0"):
            jumps.change(read_rule(text))
            for e in range(3):
                told = self.check(jumps, square, e)
                result = cells_in(self.grove, told[-1][2])
                self.assertEqual(result, middle_by_steps(self.grove, text, square, 2**e))

    def test_a_new_list_each_time(self):
        jumps = Jumps(self.grove, read_rule(LIFE))
        square = random_square(chance_of("new list"), self.grove, 4, 1)
        told = jumps.reasons(square, 1)
        kept = list(told)
        told.reverse()
        told.append((0, 0, 0))
        self.assertEqual(jumps.reasons(square, 1), kept)
        again = jumps.reasons(square, 1)
        jumps.change(read_rule("1 0"))
        jumps.reasons(square, 1)
        self.assertEqual(again, kept)


if __name__ == "__main__":
    unittest.main()
