import unittest

from jumpfield.errors import FieldError, NoLevel, NoSquare, NoState, TooFar
from jumpfield.fields import LIMIT, cell_at, field_of, planted, trimmed, widened
from jumpfield.grove import Grove
from plain import cells_in, chance_of, grown, random_states, square_of

NO_NUMBERS = (True, False, None, "", "0", (), (0,), [], 1.0, -1, 10**9, 10**299)
NO_STATES = (True, False, None, "", "0", (), (1,), [], 1.0, -1, 8, 10**20)
EDGES = [(x, y) for x in (-LIMIT, -1, 0, LIMIT - 1) for y in (-LIMIT, -1, 0, LIMIT - 1)]
OUTSIDE = [
    (-LIMIT - 1, 0),
    (LIMIT, 0),
    (0, -LIMIT - 1),
    (0, LIMIT),
    (LIMIT, LIMIT),
    (-LIMIT - 1, -LIMIT - 1),
    (10**299, 0),
    (0, -(10**299)),
]


def least_level(places):
    """The least level from 1 on of a square about the middle that has these places, counted up by hand."""
    level = 1
    while any(not -(2 ** (level - 1)) <= number < 2 ** (level - 1) for place in places for number in place):
        level += 1
    return level


class FieldsCase(unittest.TestCase):
    def setUp(self):
        self.grove = Grove()
        self.bare = field_of(self.grove, [])

    def refused(self, error, deed, *things):
        with self.subTest(deed=deed.__name__, things=things):
            with self.assertRaises(FieldError) as caught:
                deed(self.grove, *things)
            self.assertIs(caught.exception.__class__, error)

    def is_field(self, field, states):
        """Whether the number is that of the field with these states, told by the document's words alone."""
        level = least_level(states)
        half = 2 ** (level - 1)
        square = square_of(self.grove, level, {(x + half, y + half): state for (x, y), state in states.items()})
        self.assertEqual(self.grove.level_of(field), level)
        self.assertEqual(field, square)


class LimitTest(unittest.TestCase):
    def test_limit(self):
        self.assertEqual(LIMIT, 1099511627776)
        self.assertEqual(LIMIT, 2**40)


class CellsTest(FieldsCase):
    def test_the_field_without_living_cells(self):
        self.assertEqual(self.bare, self.grove.solid(1, 0))
        self.assertEqual(self.grove.level_of(self.bare), 1)
        for x, y in EDGES + OUTSIDE + [(1, 1), (-2, 3)]:
            self.assertEqual(cell_at(self.grove, self.bare, x, y), 0)

    def test_planted_near_the_middle(self):
        for x in range(-5, 6):
            for y in range(-5, 6):
                field = planted(self.grove, self.bare, x, y, 3)
                self.is_field(field, {(x, y): 3})
                self.assertEqual(cell_at(self.grove, field, x, y), 3)
                self.assertEqual(cell_at(self.grove, field, y, x), 3 if x == y else 0)

    def test_planted_beside_powers_of_two(self):
        for power in range(41):
            for number in (2**power - 1, 2**power, -(2**power) - 1, -(2**power), 1 - 2**power):
                for x, y in ((number, 0), (-1, number), (number, number)):
                    if -LIMIT <= number < LIMIT:
                        field = planted(self.grove, self.bare, x, y, 7)
                        self.is_field(field, {(x, y): 7})
                        for right in (-1, 0, 1):
                            for down in (-1, 0, 1):
                                state = 7 if right == 0 and down == 0 else 0
                                self.assertEqual(cell_at(self.grove, field, x + right, y + down), state)

    def test_planted_at_the_edges_of_the_ground(self):
        for x, y in EDGES:
            field = planted(self.grove, self.bare, x, y, 1)
            self.is_field(field, {(x, y): 1})
            self.assertEqual(cell_at(self.grove, field, x, y), 1)
            self.assertEqual(planted(self.grove, field, x, y, 0), self.bare)

    def test_all_edges_at_once(self):
        states = {place: 1 + number % 7 for number, place in enumerate(EDGES)}
        field = grown(self.grove, states)
        self.is_field(field, states)
        for (x, y), state in states.items():
            self.assertEqual(cell_at(self.grove, field, x, y), state)

    def test_outside_of_the_ground(self):
        field = grown(self.grove, {place: 5 for place in EDGES})
        for x, y in OUTSIDE:
            self.assertEqual(cell_at(self.grove, field, x, y), 0)

    def test_state_0_over_a_living_cell(self):
        first = field_of(self.grove, [(0, 0, 1), (100, -7, 2)])
        self.assertEqual(planted(self.grove, first, 100, -7, 0), planted(self.grove, self.bare, 0, 0, 1))
        self.assertEqual(planted(self.grove, first, 0, 0, 0), planted(self.grove, self.bare, 100, -7, 2))
        self.assertEqual(planted(self.grove, planted(self.grove, first, 0, 0, 0), 100, -7, 0), self.bare)

    def test_state_0_where_nothing_lives(self):
        field = field_of(self.grove, [(0, 0, 1), (5, 5, 2)])
        for x, y in [(1, 0), (6, 5), (100, 100)] + EDGES[:3]:
            self.assertEqual(planted(self.grove, field, x, y, 0), field)
            self.assertEqual(planted(self.grove, self.bare, x, y, 0), self.bare)

    def test_a_state_over_another_one(self):
        field = field_of(self.grove, [(0, 0, 1), (5, 5, 2)])
        for state in range(1, 8):
            self.is_field(planted(self.grove, field, 5, 5, state), {(0, 0): 1, (5, 5): state})

    def test_the_earlier_field_stays(self):
        field = field_of(self.grove, [(0, 0, 1), (5, 5, 2)])
        planted(self.grove, field, 5, 5, 0)
        planted(self.grove, field, -400, 5, 3)
        self.is_field(field, {(0, 0): 1, (5, 5): 2})
        self.assertEqual(cell_at(self.grove, field, 5, 5), 2)
        self.assertEqual(cell_at(self.grove, field, -400, 5), 0)

    def test_against_the_states(self):
        chance = chance_of("planted")
        for reach in (2, 8, 1000, LIMIT):
            for count in range(20):
                states = random_states(chance, chance.randrange(1, 12), reach)
                field = grown(self.grove, states)
                self.is_field(field, states)
                for (x, y), state in states.items():
                    self.assertEqual(cell_at(self.grove, field, x, y), state)
                    self.assertEqual(cell_at(self.grove, field, x + 1, y), states.get((x + 1, y), 0))


class FieldOfTest(FieldsCase):
    def test_of_two_at_one_place_the_later_one_stands(self):
        field = field_of(self.grove, [(3, 4, 1), (9, 9, 1), (3, 4, 6)])
        self.is_field(field, {(3, 4): 6, (9, 9): 1})
        self.assertEqual(field_of(self.grove, [(3, 4, 6), (3, 4, 0)]), self.bare)
        self.is_field(field_of(self.grove, [(3, 4, 0), (3, 4, 5)]), {(3, 4): 5})

    def test_state_0(self):
        self.assertEqual(field_of(self.grove, [(1, 2, 0), (-90, 70, 0)]), self.bare)
        self.is_field(field_of(self.grove, [(1, 2, 0), (2, 1, 3)]), {(2, 1): 3})

    def test_different_orders(self):
        chance = chance_of("orders")
        for reach in (3, 100, LIMIT):
            cells = [(x, y, state) for (x, y), state in random_states(chance, 12, reach).items()]
            field = field_of(self.grove, cells)
            for count in range(10):
                chance.shuffle(cells)
                self.assertEqual(field_of(self.grove, cells), field)

    def test_the_list_handed_in_stays(self):
        cells = [(3, 4, 1), (0, 0, 2), (3, 4, 0)]
        field_of(self.grove, cells)
        self.assertEqual(cells, [(3, 4, 1), (0, 0, 2), (3, 4, 0)])

    def test_five_thousand_cells(self):
        cells = [(LIMIT - 1 - number * 7, number * 11 - LIMIT, 1 + number % 7) for number in range(5000)]
        field = field_of(self.grove, cells)
        self.assertEqual(self.grove.living(field), 5000)
        for x, y, state in cells[::97]:
            self.assertEqual(cell_at(self.grove, field, x, y), state)

    def test_the_first_that_is_refused(self):
        self.refused(TooFar, field_of, [(0, 0, 1), (LIMIT, 0, 1), (0, 0, 8)])
        self.refused(NoState, field_of, [(0, 0, 1), (0, 0, 8), (LIMIT, 0, 1)])
        self.refused(TooFar, field_of, [(0, 0, 1), (LIMIT, 0, 8), (0, 0, 8)])
        self.refused(NoState, field_of, [(0, 0, True)])


class PlantedRefusalsTest(FieldsCase):
    def test_too_far(self):
        for x, y in OUTSIDE:
            for state in (0, 1, 7):
                self.refused(TooFar, planted, self.bare, x, y, state)

    def test_too_far_ahead_of_no_state(self):
        for x, y in OUTSIDE:
            for state in NO_STATES:
                self.refused(TooFar, planted, self.bare, x, y, state)

    def test_no_state(self):
        for state in NO_STATES:
            for x, y in [(5, 5)] + EDGES:
                self.refused(NoState, planted, self.bare, x, y, state)

    def test_a_refusal_changes_nothing(self):
        field = field_of(self.grove, [(1, 1, 1)])
        self.refused(TooFar, planted, field, LIMIT, 0, 1)
        self.refused(NoState, planted, field, 0, 0, 8)
        self.is_field(field, {(1, 1): 1})
        self.assertEqual(field_of(self.grove, [(1, 1, 1)]), field)


class WidenedTest(FieldsCase):
    def test_widened_has_the_same_about_the_middle(self):
        chance = chance_of("widened")
        for level in (1, 2, 3, 6, 10):
            for count in range(20):
                states = {
                    (chance.randrange(2**level), chance.randrange(2**level)): chance.randrange(1, 8)
                    for cell in range(chance.randrange(6))
                }
                square = square_of(self.grove, level, states)
                wide = widened(self.grove, square)
                half = 2 ** (level - 1)
                self.assertEqual(self.grove.level_of(wide), level + 1)
                moved = {(x + half, y + half): state for (x, y), state in states.items()}
                self.assertEqual(cells_in(self.grove, wide), moved)

    def test_full_squares(self):
        for level in (1, 2, 20, 46, 47):
            square = self.grove.solid(level, 4)
            wide = widened(self.grove, square)
            self.assertEqual(self.grove.level_of(wide), level + 1)
            self.assertEqual(self.grove.living(wide), 4**level)
            half = 2 ** (level - 1)
            self.assertEqual(self.grove.span(wide), (half, half, 2**level, 2**level))
            self.assertEqual(trimmed(self.grove, wide), square)

    def test_trimmed_is_the_least(self):
        chance = chance_of("trimmed")
        for level in (1, 2, 5, 9, 47, 48):
            half = 2 ** (level - 1)
            for reach in (1, 2, 3, 9, half):
                reach = min(reach, half)
                states = random_states(chance, 3, reach)
                square = square_of(self.grove, level, {(x + half, y + half): s for (x, y), s in states.items()})
                small = trimmed(self.grove, square)
                least = least_level(states)
                self.assertEqual(self.grove.level_of(small), least)
                inner = 2 ** (least - 1)
                found = {(x - inner, y - inner): state for (x, y), state in cells_in(self.grove, small).items()}
                self.assertEqual(found, states)

    def test_trimmed_without_living_cells(self):
        for level in (1, 2, 3, 47, 48):
            self.assertEqual(trimmed(self.grove, self.grove.solid(level, 0)), self.bare)

    def test_trimmed_full(self):
        for level in (1, 2, 3, 47, 48):
            square = self.grove.solid(level, 2)
            self.assertEqual(trimmed(self.grove, square), square)

    def test_one_cell_in_each_corner_keeps_the_level(self):
        for level in (2, 3, 8, 48):
            far = 2**level - 1
            for corner in ((0, 0), (far, 0), (0, far), (far, far)):
                square = square_of(self.grove, level, {corner: 1})
                self.assertEqual(trimmed(self.grove, square), square)

    def test_widened_many_times_and_trimmed(self):
        field = field_of(self.grove, [(-3, 2, 1), (0, 0, 5)])
        wide = field
        while self.grove.level_of(wide) < 48:
            wide = widened(self.grove, wide)
            self.assertEqual(trimmed(self.grove, wide), field)
            self.assertEqual(cell_at(self.grove, wide, -3, 2), 1)
        self.refused(NoLevel, widened, wide)

    def test_no_level(self):
        for state in (0, 1, 7):
            self.refused(NoLevel, widened, self.grove.leaf(state))
            self.refused(NoLevel, trimmed, self.grove.leaf(state))
            self.refused(NoLevel, widened, self.grove.solid(48, state))

    def test_no_square(self):
        for thing in NO_NUMBERS:
            self.refused(NoSquare, widened, thing)
            self.refused(NoSquare, trimmed, thing)


if __name__ == "__main__":
    unittest.main()
