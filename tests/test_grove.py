import itertools
import unittest

from jumpfield.errors import FieldError, NoLevel, NoSquare, NoState
from jumpfield.grove import Grove
from plain import cells_in, chance_of, square_of

TOP = 48
NO_NUMBERS = (True, False, None, "", "0", "1", (), (0,), [], [1], {}, 1.0, -1, -(10**30), 10**9, 10**9 + 1, 10**299)
NO_LEVELS = (True, False, None, "", "0", (), (1,), [], 1.0, -1, 49, 50, 10**20)
NO_STATES = (True, False, None, "", "0", (), (1,), [], 1.0, -1, 8, 9, 10**20)


class GroveCase(unittest.TestCase):
    def setUp(self):
        self.grove = Grove()

    def refused(self, error, deed, *things):
        with self.subTest(deed=deed.__name__, things=things):
            with self.assertRaises(FieldError) as caught:
                deed(*things)
            self.assertIs(caught.exception.__class__, error)


class SquaresTest(GroveCase):
    def test_leaves(self):
        numbers = [self.grove.leaf(state) for state in range(8)]
        self.assertEqual(len(set(numbers)), 8)
        self.assertEqual([self.grove.leaf(state) for state in range(8)], numbers)
        for state, number in enumerate(numbers):
            self.assertEqual(self.grove.level_of(number), 0)
            self.assertEqual(self.grove.state_of(number), state)
            self.assertEqual(self.grove.solid(0, state), number)

    def test_joined(self):
        leaves = [self.grove.leaf(state) for state in range(8)]
        seen = {}
        for quarters in itertools.product(leaves[:4], repeat=4):
            number = self.grove.joined(*quarters)
            self.assertNotIn(number, seen)
            seen[number] = quarters
        for number, quarters in seen.items():
            self.assertEqual(self.grove.joined(*quarters), number)
            self.assertEqual(self.grove.quarters(number), quarters)
            self.assertIs(self.grove.quarters(number).__class__, tuple)
            self.assertEqual(self.grove.level_of(number), 1)

    def test_order_of_the_quarters(self):
        quarters = tuple(self.grove.leaf(state) for state in (1, 2, 3, 4))
        square = self.grove.joined(*quarters)
        self.assertEqual(self.grove.quarters(square), quarters)
        self.assertEqual(cells_in(self.grove, square), {(0, 0): 1, (1, 0): 2, (0, 1): 3, (1, 1): 4})

    def test_solid_at_all_levels(self):
        for state in range(8):
            below = None
            for level in range(TOP + 1):
                square = self.grove.solid(level, state)
                self.assertEqual(self.grove.solid(level, state), square)
                self.assertEqual(self.grove.level_of(square), level)
                if below is not None:
                    self.assertEqual(self.grove.quarters(square), (below,) * 4)
                    self.assertEqual(self.grove.joined(below, below, below, below), square)
                below = square

    def test_solid_ones_are_unlike(self):
        seen = {self.grove.solid(level, state) for level in range(TOP + 1) for state in range(8)}
        self.assertEqual(len(seen), 49 * 8)

    def test_alike_in_whatever_way_they_were_made(self):
        one = self.grove.leaf(1)
        none = self.grove.leaf(0)
        small = self.grove.joined(one, none, none, one)
        first = self.grove.joined(small, small, self.grove.solid(1, 0), small)
        second = self.grove.joined(
            self.grove.joined(self.grove.solid(0, 1), none, none, one),
            small,
            self.grove.joined(none, none, self.grove.leaf(0), none),
            self.grove.quarters(first)[0],
        )
        self.assertEqual(first, second)
        self.assertEqual(self.grove.joined(*self.grove.quarters(first)), first)
        great = self.grove.joined(*[self.grove.solid(47, 3)] * 4)
        self.assertEqual(great, self.grove.solid(48, 3))
        self.assertEqual(self.grove.quarters(great), (self.grove.solid(47, 3),) * 4)

    def test_alike_just_where_their_cells_are(self):
        chance = chance_of("alike squares")
        for level in range(5):
            seen = {}
            for count in range(200):
                amount = chance.randrange(4)
                states = {
                    (chance.randrange(2**level), chance.randrange(2**level)): chance.randrange(1, 3)
                    for cell in range(amount)
                }
                square = square_of(self.grove, level, states)
                self.assertEqual(cells_in(self.grove, square), states)
                self.assertEqual(self.grove.level_of(square), level)
                self.assertEqual(seen.setdefault(square, states), states)
            kinds = {tuple(sorted(states.items())) for states in seen.values()}
            self.assertEqual(len(kinds), len(seen))

    def test_numbers(self):
        for level in (0, 1, 2, 7, 47, 48):
            for state in range(8):
                square = self.grove.solid(level, state)
                self.assertIs(square.__class__, int)
                self.assertTrue(0 <= square < 10**9)

    def test_a_number_stands_for_ever(self):
        chance = chance_of("for ever")
        told = []
        for count in range(300):
            states = {(chance.randrange(8), chance.randrange(8)): chance.randrange(1, 8) for cell in range(5)}
            told.append((square_of(self.grove, 3, states), states))
        for square, states in told:
            self.assertEqual(cells_in(self.grove, square), states)
            self.assertEqual(square_of(self.grove, 3, states), square)

    def test_two_groves(self):
        other = Grove()
        mine = self.grove.joined(*[self.grove.leaf(state) for state in (1, 2, 3, 4)])
        theirs = other.joined(*[other.leaf(state) for state in (4, 3, 2, 1)])
        self.assertEqual(cells_in(self.grove, mine), {(0, 0): 1, (1, 0): 2, (0, 1): 3, (1, 1): 4})
        self.assertEqual(cells_in(other, theirs), {(0, 0): 4, (1, 0): 3, (0, 1): 2, (1, 1): 1})


class LivingTest(GroveCase):
    def test_leaves(self):
        self.assertEqual(self.grove.living(self.grove.leaf(0)), 0)
        self.assertIsNone(self.grove.span(self.grove.leaf(0)))
        for state in range(1, 8):
            self.assertEqual(self.grove.living(self.grove.leaf(state)), 1)
            self.assertEqual(self.grove.span(self.grove.leaf(state)), (0, 0, 1, 1))

    def test_solid_at_all_levels(self):
        for level in range(TOP + 1):
            self.assertEqual(self.grove.living(self.grove.solid(level, 0)), 0)
            self.assertIsNone(self.grove.span(self.grove.solid(level, 0)))
            for state in (1, 7):
                square = self.grove.solid(level, state)
                self.assertEqual(self.grove.living(square), 4**level)
                self.assertEqual(self.grove.span(square), (0, 0, 2**level, 2**level))

    def test_one_living_cell_at_each_place(self):
        for level in range(4):
            for x, y in itertools.product(range(2**level), repeat=2):
                square = square_of(self.grove, level, {(x, y): 5})
                self.assertEqual(self.grove.living(square), 1)
                self.assertEqual(self.grove.span(square), (x, y, 1, 1))

    def test_against_the_cells(self):
        chance = chance_of("living")
        for count in range(200):
            level = chance.randrange(1, 6)
            states = {
                (chance.randrange(2**level), chance.randrange(2**level)): chance.randrange(1, 8)
                for cell in range(chance.randrange(1, 6))
            }
            square = square_of(self.grove, level, states)
            xs = [x for x, y in states]
            ys = [y for x, y in states]
            box = (min(xs), min(ys), max(xs) - min(xs) + 1, max(ys) - min(ys) + 1)
            for again in range(2):
                self.assertEqual(self.grove.living(square), len(states))
                self.assertEqual(self.grove.span(square), box)
            self.assertIs(self.grove.span(square).__class__, tuple)

    def test_one_living_cell_in_each_quarter(self):
        for level in (1, 2, 3, 10, 47, 48):
            far = 2**level - 1
            corners = square_of(self.grove, level, {(0, 0): 1, (far, 0): 2, (0, far): 3, (far, far): 4})
            self.assertEqual(self.grove.living(corners), 4)
            self.assertEqual(self.grove.span(corners), (0, 0, 2**level, 2**level))
            half = 2 ** (level - 1)
            inner = {(half - 1, half - 1): 1, (half, half - 1): 2, (half - 1, half): 3, (half, half): 4}
            square = square_of(self.grove, level, inner)
            self.assertEqual(self.grove.living(square), 4)
            self.assertEqual(self.grove.span(square), (half - 1, half - 1, 2, 2))

    def test_great_squares_of_few_unlike_ones(self):
        square = self.grove.leaf(1)
        for level in range(TOP):
            square = self.grove.joined(square, self.grove.solid(level, 0), square, square)
        self.assertEqual(self.grove.living(square), 3**48)
        self.assertEqual(self.grove.span(square), (0, 0, 2**48, 2**48))

    def test_one_far_cell_of_a_great_square(self):
        for x, y in ((0, 2**48 - 1), (2**47, 2**47 - 1), (123456789012345, 98765432109876)):
            square = square_of(self.grove, 48, {(x, y): 6})
            self.assertEqual(self.grove.living(square), 1)
            self.assertEqual(self.grove.span(square), (x, y, 1, 1))


class RefusalsTest(GroveCase):
    def test_no_square(self):
        leaf = self.grove.leaf(1)
        for thing in NO_NUMBERS:
            for deed in (
                self.grove.level_of,
                self.grove.quarters,
                self.grove.state_of,
                self.grove.living,
                self.grove.span,
            ):
                self.refused(NoSquare, deed, thing)
            for place in range(4):
                quarters = [leaf] * 4
                quarters[place] = thing
                self.refused(NoSquare, self.grove.joined, *quarters)
            self.refused(NoSquare, self.grove.joined, thing, thing, thing, thing)

    def test_no_square_ahead_of_no_level(self):
        great = self.grove.solid(48, 1)
        leaf = self.grove.leaf(1)
        small = self.grove.solid(1, 1)
        for thing in NO_NUMBERS:
            for place in range(4):
                for others in ([great] * 4, [leaf, small, leaf, small], [small, leaf, great, leaf]):
                    quarters = list(others)
                    quarters[place] = thing
                    self.refused(NoSquare, self.grove.joined, *quarters)

    def test_no_level_of_joined(self):
        great = self.grove.solid(48, 0)
        self.refused(NoLevel, self.grove.joined, great, great, great, great)
        for below, above in ((0, 1), (0, 48), (1, 2), (46, 47), (47, 48), (3, 9)):
            low = self.grove.solid(below, 1)
            high = self.grove.solid(above, 1)
            for place in range(4):
                for one, other in ((low, high), (high, low)):
                    quarters = [one] * 4
                    quarters[place] = other
                    self.refused(NoLevel, self.grove.joined, *quarters)
            self.refused(NoLevel, self.grove.joined, low, low, high, high)

    def test_no_level_of_quarters(self):
        for state in range(8):
            self.refused(NoLevel, self.grove.quarters, self.grove.leaf(state))

    def test_no_level_of_state_of(self):
        for level in (1, 2, 5, 47, 48):
            for state in (0, 1, 7):
                self.refused(NoLevel, self.grove.state_of, self.grove.solid(level, state))

    def test_no_level_of_solid(self):
        for level in NO_LEVELS:
            self.refused(NoLevel, self.grove.solid, level, 1)
            for state in NO_STATES:
                self.refused(NoLevel, self.grove.solid, level, state)

    def test_no_state(self):
        for state in NO_STATES:
            self.refused(NoState, self.grove.leaf, state)
            for level in (0, 1, 5, 47, 48):
                self.refused(NoState, self.grove.solid, level, state)

    def test_a_refusal_changes_nothing(self):
        leaf = self.grove.leaf(2)
        square = self.grove.joined(leaf, leaf, leaf, self.grove.leaf(3))
        great = self.grove.solid(48, 2)
        for again in range(2):
            self.refused(NoState, self.grove.leaf, 8)
            self.refused(NoLevel, self.grove.joined, great, great, great, great)
            self.refused(NoLevel, self.grove.joined, leaf, leaf, leaf, square)
            self.refused(NoSquare, self.grove.joined, leaf, leaf, leaf, True)
            self.refused(NoLevel, self.grove.solid, 49, 1)
            self.refused(NoState, self.grove.solid, 5, 9)
            self.assertEqual(self.grove.leaf(2), leaf)
            self.assertEqual(self.grove.joined(leaf, leaf, leaf, self.grove.leaf(3)), square)
            self.assertEqual(self.grove.solid(48, 2), great)
            self.assertEqual(self.grove.level_of(square), 1)
            self.assertEqual(self.grove.living(square), 4)
            self.assertEqual(self.grove.span(square), (0, 0, 2, 2))


if __name__ == "__main__":
    unittest.main()
