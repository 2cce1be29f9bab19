import unittest

from jumpfield.boxes import cut_out, filled
from jumpfield.fields import LIMIT, cell_at, field_of
from jumpfield.grove import Grove
from jumpfield.layers import laid_over
from plain import chance_of, grown, random_states


class LayersTest(unittest.TestCase):
    def setUp(self):
        self.grove = Grove()
        self.bare = field_of(self.grove, [])

    def check(self, lower, upper):
        low = grown(self.grove, lower)
        high = grown(self.grove, upper)
        self.assertEqual(laid_over(self.grove, low, high), grown(self.grove, {**lower, **upper}))
        self.assertEqual((grown(self.grove, lower), grown(self.grove, upper)), (low, high))

    def test_single_cells(self):
        self.check({(0, 0): 1}, {(0, 0): 2})
        self.check({(0, 0): 1}, {(1, 0): 2})
        self.check({(-1, -1): 1}, {(0, 0): 2})
        self.check({(-LIMIT, 5): 1}, {(LIMIT - 1, LIMIT - 1): 2})

    def test_the_upper_one_stands(self):
        low = field_of(self.grove, [(0, 0, 1), (1, 0, 2), (2, 0, 3)])
        high = field_of(self.grove, [(1, 0, 5), (2, 0, 6), (3, 0, 7)])
        self.assertEqual(
            laid_over(self.grove, low, high), field_of(self.grove, [(0, 0, 1), (1, 0, 5), (2, 0, 6), (3, 0, 7)])
        )
        self.assertEqual(
            laid_over(self.grove, high, low), field_of(self.grove, [(0, 0, 1), (1, 0, 2), (2, 0, 3), (3, 0, 7)])
        )

    def test_fields_that_meet_and_that_do_not(self):
        chance = chance_of("layers")
        for count in range(150):
            lower = random_states(chance, chance.randrange(30), chance.choice([1, 2, 6, 100, LIMIT]))
            upper = random_states(chance, chance.randrange(30), chance.choice([1, 2, 6, 100, LIMIT]))
            self.check(lower, upper)

    def test_without_living_cells(self):
        field = grown(self.grove, random_states(chance_of("one bare"), 30, 100))
        self.assertEqual(laid_over(self.grove, field, self.bare), field)
        self.assertEqual(laid_over(self.grove, self.bare, field), field)
        self.assertEqual(laid_over(self.grove, self.bare, self.bare), self.bare)

    def test_over_itself(self):
        for reach in (1, 50, LIMIT):
            field = grown(self.grove, random_states(chance_of("itself"), 30, reach))
            self.assertEqual(laid_over(self.grove, field, field), field)

    def test_great_filled_boxes(self):
        low = filled(self.grove, self.bare, (-LIMIT, -3, 2 * LIMIT, 10**6), 2)
        high = filled(self.grove, self.bare, (-5, -LIMIT, 10**9, 2 * LIMIT), 3)
        self.assertEqual(
            laid_over(self.grove, low, high), filled(self.grove, low, (-5, -LIMIT, 10**9, 2 * LIMIT), 3)
        )
        self.assertEqual(
            laid_over(self.grove, high, low), filled(self.grove, high, (-LIMIT, -3, 2 * LIMIT, 10**6), 2)
        )
        whole = self.grove.solid(41, 7)
        self.assertEqual(laid_over(self.grove, low, whole), whole)
        self.assertEqual(laid_over(self.grove, whole, self.bare), whole)
        over = laid_over(self.grove, whole, low)
        self.assertEqual(self.grove.living(over), 4 * LIMIT * LIMIT)
        self.assertEqual(cell_at(self.grove, over, -LIMIT, -3), 2)
        self.assertEqual(cell_at(self.grove, over, -LIMIT, -4), 7)

    def test_a_great_field_cut_in_two_and_laid_together(self):
        field = self.grove.leaf(3)
        for level in range(41):
            field = self.grove.joined(field, self.grove.solid(level, 0), field, field)
        upper = cut_out(self.grove, field, (-LIMIT, -LIMIT, 2 * LIMIT, LIMIT + 12345))
        lower = cut_out(self.grove, field, (-LIMIT, 12345, 2 * LIMIT, LIMIT - 12345))
        self.assertEqual(self.grove.living(upper) + self.grove.living(lower), 3**41)
        self.assertEqual(laid_over(self.grove, upper, lower), field)
        self.assertEqual(laid_over(self.grove, lower, upper), field)


if __name__ == "__main__":
    unittest.main()
