import itertools
import unittest

from jumpfield.boxes import filled
from jumpfield.errors import FieldError, TooFar
from jumpfield.fields import LIMIT, cell_at, field_of
from jumpfield.grove import Grove
from jumpfield.listing import box_of
from jumpfield.moves import moved_by
from plain import chance_of, grown, random_states


class MovesTest(unittest.TestCase):
    def setUp(self):
        self.grove = Grove()
        self.bare = field_of(self.grove, [])

    def too_far(self, field, dx, dy):
        with self.subTest(dx=dx, dy=dy):
            with self.assertRaises(FieldError) as caught:
                moved_by(self.grove, field, dx, dy)
            self.assertIs(caught.exception.__class__, TooFar)

    def check(self, states, dx, dy):
        field = grown(self.grove, states)
        wanted = {(x + dx, y + dy): state for (x, y), state in states.items()}
        with self.subTest(dx=dx, dy=dy):
            moved = moved_by(self.grove, field, dx, dy)
            self.assertEqual(moved, grown(self.grove, wanted))
            self.assertEqual(moved_by(self.grove, moved, -dx, -dy), field)

    def test_single_cells_by_small_numbers(self):
        for x, y in itertools.product((-2, -1, 0, 1, 7), repeat=2):
            for dx, dy in itertools.product((-9, -2, -1, 0, 1, 2, 8), repeat=2):
                self.check({(x, y): 4}, dx, dy)

    def test_by_nothing(self):
        field = grown(self.grove, random_states(chance_of("by nothing"), 30, 100))
        self.assertEqual(moved_by(self.grove, field, 0, 0), field)

    def test_many_cells(self):
        chance = chance_of("moves")
        for reach in (2, 5, 30, 4000, 2**39):
            for count in range(25):
                far = chance.choice([1, 3, 64, 1000, 2**39])
                states = random_states(chance, chance.randrange(1, 40), reach)
                self.check(states, chance.randint(-far, far), chance.randint(-far, far))
                self.check(states, 0, chance.randint(-far, far))
                self.check(states, chance.randint(-far, far), 0)

    def test_by_powers_of_two(self):
        states = random_states(chance_of("powers"), 20, 20)
        for power in range(40):
            for far in (2**power - 1, 2**power):
                self.check(states, far, -far)
                self.check(states, -far, 0)

    def test_to_the_edges_and_one_beyond(self):
        states = {(-3, -2): 1, (4, 0): 2, (0, 5): 3}
        field = grown(self.grove, states)
        for dx in (-LIMIT + 3, LIMIT - 5):
            for dy in (-LIMIT + 2, LIMIT - 6):
                self.check(states, dx, dy)
        for dx in (-LIMIT + 2, LIMIT - 4):
            for dy in (-LIMIT + 2, 0, LIMIT - 6):
                self.too_far(field, dx, dy)
        for dy in (-LIMIT + 1, LIMIT - 5):
            for dx in (-LIMIT + 3, 0, LIMIT - 5):
                self.too_far(field, dx, dy)

    def test_from_one_edge_to_the_other(self):
        for place in itertools.product((-LIMIT, LIMIT - 1), repeat=2):
            field = field_of(self.grove, [(place[0], place[1], 7)])
            for target in itertools.product((-LIMIT, LIMIT - 1), repeat=2):
                moved = moved_by(self.grove, field, target[0] - place[0], target[1] - place[1])
                self.assertEqual(moved, field_of(self.grove, [(target[0], target[1], 7)]))

    def test_by_far_greater_numbers(self):
        field = field_of(self.grove, [(0, 0, 1)])
        for far in (2 * LIMIT, 2 * LIMIT + 1, 10**30, 10**299):
            for dx, dy in ((far, 0), (-far, 0), (0, far), (0, -far), (far, -far)):
                self.too_far(field, dx, dy)

    def test_the_field_without_living_cells(self):
        for far in (0, 1, LIMIT, 2 * LIMIT, 10**299):
            for dx, dy in ((far, 0), (-far, far), (0, -far)):
                self.assertEqual(moved_by(self.grove, self.bare, dx, dy), self.bare)

    def test_great_filled_boxes(self):
        chance = chance_of("great moves")
        for count in range(30):
            left = chance.randrange(-LIMIT, LIMIT)
            top = chance.randrange(-LIMIT, LIMIT)
            wide = chance.randrange(1, LIMIT - left + 1)
            high = chance.randrange(1, LIMIT - top + 1)
            field = filled(self.grove, self.bare, (left, top, wide, high), 2)
            new_left = chance.randint(-LIMIT, LIMIT - wide)
            new_top = chance.randint(-LIMIT, LIMIT - high)
            moved = moved_by(self.grove, field, new_left - left, new_top - top)
            self.assertEqual(moved, filled(self.grove, self.bare, (new_left, new_top, wide, high), 2))
            self.too_far(field, LIMIT - left - wide + 1, 0)
            self.too_far(field, 0, -LIMIT - top - 1)

    def test_a_great_field_of_few_unlike_squares(self):
        square = self.grove.leaf(3)
        for level in range(39):
            square = self.grove.joined(square, self.grove.solid(level, 0), square, square)
        bare = self.grove.solid(39, 0)
        field = self.grove.joined(bare, square, bare, bare)
        for dx, dy in ((1, 0), (-1, 1), (12345, 6789), (-(2**39), 2**39 - 1)):
            moved = moved_by(self.grove, field, dx, dy)
            self.assertEqual(self.grove.living(moved), 3**39)
            self.assertEqual(box_of(self.grove, moved), (dx, dy - 2**39, 2**39, 2**39))
            self.assertEqual(cell_at(self.grove, moved, dx, dy - 1), 3)
            self.assertEqual(moved_by(self.grove, moved, -dx, -dy), field)

    def test_the_earlier_field_stays(self):
        field = field_of(self.grove, [(0, 0, 1), (5, 5, 2)])
        moved_by(self.grove, field, 100, 100)
        self.assertEqual(cell_at(self.grove, field, 5, 5), 2)
        self.assertEqual(field_of(self.grove, [(0, 0, 1), (5, 5, 2)]), field)

    def test_a_refusal_changes_nothing(self):
        field = field_of(self.grove, [(0, 0, 1)])
        self.too_far(field, LIMIT, 0)
        self.assertEqual(box_of(self.grove, field), (0, 0, 1, 1))
        self.assertEqual(moved_by(self.grove, field, LIMIT - 1, 0), field_of(self.grove, [(LIMIT - 1, 0, 1)]))


if __name__ == "__main__":
    unittest.main()
