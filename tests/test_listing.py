import unittest

from jumpfield.errors import FieldError, TooMany
from jumpfield.fields import LIMIT, field_of, planted
from jumpfield.grove import Grove
from jumpfield.listing import box_of, cells_of
from plain import chance_of, grown, listed, random_states

EDGES = [(x, y) for x in (-LIMIT, 0, LIMIT - 1) for y in (-LIMIT, 0, LIMIT - 1)]


class ListingCase(unittest.TestCase):
    def setUp(self):
        self.grove = Grove()

    def too_many(self, field):
        with self.assertRaises(FieldError) as caught:
            cells_of(self.grove, field)
        self.assertIs(caught.exception.__class__, TooMany)


class CellsOfTest(ListingCase):
    def test_none(self):
        self.assertEqual(cells_of(self.grove, field_of(self.grove, [])), [])

    def test_the_order(self):
        cells = [(1, 2, 3), (-9, 2, 1), (40, -7, 2), (0, 0, 7), (-1, 0, 6), (0, 2, 5), (-40, 9, 4)]
        self.assertEqual(
            cells_of(self.grove, field_of(self.grove, cells)),
            [(40, -7, 2), (-1, 0, 6), (0, 0, 7), (-9, 2, 1), (0, 2, 5), (1, 2, 3), (-40, 9, 4)],
        )

    def test_against_the_states(self):
        chance = chance_of("listing")
        for reach in (2, 9, 500, LIMIT):
            for count in range(20):
                states = random_states(chance, chance.randrange(1, 40), reach)
                told = cells_of(self.grove, grown(self.grove, states))
                self.assertEqual(told, listed(states))
                self.assertIs(told[0].__class__, tuple)

    def test_at_the_edges_of_the_ground(self):
        states = {place: 1 + number % 7 for number, place in enumerate(EDGES)}
        self.assertEqual(cells_of(self.grove, grown(self.grove, states)), listed(states))

    def test_4096_and_4097(self):
        cells = [(x, y, 1 + (x + y) % 7) for y in range(64) for x in range(64)]
        field = field_of(self.grove, cells)
        self.assertEqual(cells_of(self.grove, field), cells)
        self.too_many(planted(self.grove, field, -1, -1, 1))
        self.too_many(planted(self.grove, field, LIMIT - 1, 9, 1))
        fewer = planted(self.grove, field, 3, 3, 0)
        self.assertEqual(cells_of(self.grove, fewer), [cell for cell in cells if cell[:2] != (3, 3)])

    def test_4096_far_apart(self):
        cells = [(number * 1000003 - LIMIT, LIMIT - 1 - number * 7919, 1 + number % 7) for number in range(4096)]
        self.assertEqual(cells_of(self.grove, field_of(self.grove, cells)), cells[::-1])

    def test_full_squares_of_a_great_level(self):
        for level in (7, 10, 20, 41):
            for state in (1, 7):
                self.too_many(self.grove.solid(level, state))

    def test_a_new_list_each_time(self):
        field = field_of(self.grove, [(1, 2, 3), (0, 0, 1)])
        told = cells_of(self.grove, field)
        told.append((9, 9, 9))
        told.reverse()
        self.assertEqual(cells_of(self.grove, field), [(0, 0, 1), (1, 2, 3)])
        kept = cells_of(self.grove, field)
        planted(self.grove, field, 0, 0, 0)
        self.assertEqual(kept, [(0, 0, 1), (1, 2, 3)])


class BoxOfTest(ListingCase):
    def test_none(self):
        self.assertIsNone(box_of(self.grove, field_of(self.grove, [])))
        self.assertIsNone(box_of(self.grove, field_of(self.grove, [(5, 5, 1), (5, 5, 0)])))

    def test_one_cell(self):
        for x, y in EDGES + [(0, 0), (-1, -1), (-1, 0), (17, -300), (2**30, -(2**30))]:
            field = field_of(self.grove, [(x, y, 4)])
            self.assertEqual(box_of(self.grove, field), (x, y, 1, 1))
            self.assertIs(box_of(self.grove, field).__class__, tuple)

    def test_the_whole_ground(self):
        corners = [(-LIMIT, -LIMIT, 1), (LIMIT - 1, LIMIT - 1, 1)]
        self.assertEqual(box_of(self.grove, field_of(self.grove, corners)), (-LIMIT, -LIMIT, 2 * LIMIT, 2 * LIMIT))
        self.assertEqual(box_of(self.grove, self.grove.solid(41, 3)), (-LIMIT, -LIMIT, 2 * LIMIT, 2 * LIMIT))

    def test_cells_at_two_edges(self):
        field = field_of(self.grove, [(-LIMIT, 5, 1), (LIMIT - 1, -5, 2)])
        self.assertEqual(box_of(self.grove, field), (-LIMIT, -5, 2 * LIMIT, 11))
        field = field_of(self.grove, [(3, -LIMIT, 1), (4, LIMIT - 1, 2)])
        self.assertEqual(box_of(self.grove, field), (3, -LIMIT, 2, 2 * LIMIT))

    def test_against_the_states(self):
        chance = chance_of("boxes of fields")
        for reach in (2, 9, 500, LIMIT):
            for count in range(20):
                states = random_states(chance, chance.randrange(1, 6), reach)
                left = min(x for x, y in states)
                top = min(y for x, y in states)
                wide = max(x for x, y in states) - left + 1
                high = max(y for x, y in states) - top + 1
                self.assertEqual(box_of(self.grove, grown(self.grove, states)), (left, top, wide, high))


if __name__ == "__main__":
    unittest.main()
