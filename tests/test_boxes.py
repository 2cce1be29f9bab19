import itertools
import unittest

from jumpfield.boxes import cut_out, filled
from jumpfield.errors import FieldError, NoBox, NoState, TooFar
from jumpfield.fields import LIMIT, cell_at, field_of
from jumpfield.grove import Grove
from jumpfield.listing import box_of
from plain import chance_of, grown, random_states

NO_STATES = (True, False, None, "", "0", (), (1,), [], 1.0, -1, 8, 10**20)
WHOLE = (-LIMIT, -LIMIT, 2 * LIMIT, 2 * LIMIT)
NO_BOXES = [
    (0, 0, -1, 1),
    (0, 0, 1, -1),
    (0, 0, -1, -1),
    (0, 0, -1, 0),
    (0, 0, 0, -1),
    (5, 5, -(10**299), 3),
    (LIMIT, 0, -1, 1),
    (0, -LIMIT - 9, 4 * LIMIT, -5),
]
BOXES_BEYOND = [
    (-LIMIT - 1, 0, 1, 1),
    (-LIMIT - 1, 0, 9, 9),
    (LIMIT, 0, 1, 1),
    (LIMIT - 1, 0, 2, 1),
    (0, -LIMIT - 1, 1, 1),
    (0, LIMIT, 1, 1),
    (0, LIMIT - 3, 5, 4),
    (-LIMIT, -LIMIT, 2 * LIMIT + 1, 1),
    (-LIMIT, -LIMIT, 1, 2 * LIMIT + 1),
    (-LIMIT - 1, -LIMIT - 1, 2 * LIMIT + 2, 2 * LIMIT + 2),
    (10**299, 0, 1, 1),
    (0, -(10**299), 1, 1),
    (0, 0, 10**299, 10**299),
]


class BoxesCase(unittest.TestCase):
    def setUp(self):
        self.grove = Grove()
        self.bare = field_of(self.grove, [])

    def refused(self, error, deed, *things):
        with self.subTest(deed=deed.__name__, things=things):
            with self.assertRaises(FieldError) as caught:
                deed(self.grove, *things)
            self.assertIs(caught.exception.__class__, error)

    def has(self, box, x, y):
        return box[0] <= x < box[0] + box[2] and box[1] <= y < box[1] + box[3]


class FilledTest(BoxesCase):
    def check(self, states, box, state):
        field = grown(self.grove, states)
        wanted = dict(states)
        for x in range(box[0], box[0] + box[2]):
            for y in range(box[1], box[1] + box[3]):
                wanted[(x, y)] = state
        with self.subTest(box=box, state=state):
            self.assertEqual(filled(self.grove, field, box, state), grown(self.grove, wanted))
            self.assertEqual(grown(self.grove, states), field)

    def test_one_place(self):
        for x, y in itertools.product((-LIMIT, -3, -1, 0, 2, 64, LIMIT - 1), repeat=2):
            self.check({}, (x, y, 1, 1), 5)
            self.check({(0, 0): 1, (x, 3): 2}, (x, y, 1, 1), 5)

    def test_rows_and_columns(self):
        for start in (-20, -8, -1, 0, 3):
            for length in (1, 2, 7, 20):
                self.check({(1, 1): 2, (-9, 0): 3}, (start, 0, length, 1), 4)
                self.check({(1, 1): 2, (0, -9): 3}, (0, start, 1, length), 4)

    def test_against_the_states(self):
        chance = chance_of("filled")
        for count in range(150):
            reach = chance.choice([2, 5, 17])
            states = random_states(chance, chance.randrange(12), reach)
            box = (
                chance.randrange(-reach - 2, reach + 2),
                chance.randrange(-reach - 2, reach + 2),
                chance.randrange(0, reach + 4),
                chance.randrange(0, reach + 4),
            )
            self.check(states, box, chance.randrange(8))

    def test_state_0_over_living_cells(self):
        self.check({(x, y): 1 for x in range(-4, 9) for y in range(-4, 9)}, (-2, 0, 5, 6), 0)
        self.check({(0, 0): 1, (30, 30): 2}, (29, 29, 3, 3), 0)
        self.check({(0, 0): 1, (30, 30): 2}, (-5, -5, 50, 50), 0)
        field = field_of(self.grove, [(0, 0, 1), (LIMIT - 1, -LIMIT, 3)])
        self.assertEqual(filled(self.grove, field, WHOLE, 0), self.bare)
        self.assertEqual(filled(self.grove, field, (1, -LIMIT, LIMIT - 1, LIMIT), 0), field_of(self.grove, [(0, 0, 1)]))

    def test_a_state_over_another_one(self):
        first = filled(self.grove, self.bare, (-100, -50, 300, 200), 3)
        second = filled(self.grove, first, (-100, -50, 300, 200), 6)
        self.assertEqual(second, filled(self.grove, self.bare, (-100, -50, 300, 200), 6))
        self.assertNotEqual(first, second)
        third = filled(self.grove, first, (-7, -9, 20, 30), 1)
        self.assertEqual(cell_at(self.grove, third, -8, -9), 3)
        self.assertEqual(cell_at(self.grove, third, -7, -9), 1)
        self.assertEqual(cell_at(self.grove, third, 12, 20), 1)
        self.assertEqual(cell_at(self.grove, third, 13, 20), 3)
        self.assertEqual(cell_at(self.grove, third, 12, 21), 3)
        self.assertEqual(filled(self.grove, third, (-7, -9, 20, 30), 3), first)

    def test_the_whole_ground(self):
        for state in range(1, 8):
            field = filled(self.grove, self.bare, WHOLE, state)
            self.assertEqual(field, self.grove.solid(41, state))
            self.assertEqual(box_of(self.grove, field), WHOLE)
            self.assertEqual(self.grove.living(field), 4 * LIMIT * LIMIT)

    def test_at_each_edge_and_corner_of_the_ground(self):
        for left, top in itertools.product((-LIMIT, -5, LIMIT - 10), repeat=2):
            for wide, high in ((10, 10), (1, 10), (10, 1), (3, 7)):
                left_most = left if left < 0 else LIMIT - wide
                top_most = top if top < 0 else LIMIT - high
                self.check({(0, 0): 2}, (left_most, top_most, wide, high), 7)

    def test_great_boxes(self):
        chance = chance_of("great boxes")
        for count in range(40):
            xs = sorted(chance.sample(range(-LIMIT, LIMIT + 1), 2))
            ys = sorted(chance.sample(range(-LIMIT, LIMIT + 1), 2))
            box = (xs[0], ys[0], xs[1] - xs[0], ys[1] - ys[0])
            field = filled(self.grove, self.bare, box, 4)
            self.assertEqual(self.grove.living(field), box[2] * box[3])
            self.assertEqual(box_of(self.grove, field), box)
            for x in (xs[0] - 1, xs[0], xs[1] - 1, xs[1]):
                for y in (ys[0] - 1, ys[0], ys[1] - 1, ys[1]):
                    self.assertEqual(cell_at(self.grove, field, x, y), 4 if self.has(box, x, y) else 0)

    def test_two_halves_make_the_whole(self):
        chance = chance_of("halves")
        field = grown(self.grove, random_states(chance, 20, 1000))
        for count in range(20):
            left = chance.randrange(-LIMIT, LIMIT - 10)
            top = chance.randrange(-LIMIT, LIMIT - 10)
            wide = chance.randrange(2, LIMIT - left + 1)
            high = chance.randrange(2, LIMIT - top + 1)
            whole = filled(self.grove, field, (left, top, wide, high), 5)
            cut = chance.randrange(1, wide)
            parts = [(left, top, cut, high), (left + cut, top, wide - cut, high)]
            for first, second in (parts, parts[::-1]):
                half = filled(self.grove, field, first, 5)
                self.assertNotEqual(half, whole)
                self.assertEqual(filled(self.grove, half, second, 5), whole)
            cut = chance.randrange(1, high)
            half = filled(self.grove, field, (left, top, wide, cut), 5)
            self.assertEqual(filled(self.grove, half, (left, top + cut, wide, high - cut), 5), whole)

    def test_boxes_without_places(self):
        field = field_of(self.grove, [(0, 0, 1), (9, -4, 2)])
        edges = (-LIMIT - 1, -LIMIT, -3, 0, 5, LIMIT - 1, LIMIT, LIMIT + 1, 10**299)
        for left, top in itertools.product(edges, repeat=2):
            for wide, high in ((0, 0), (0, 1), (1, 0), (0, 7), (7, 0), (0, 4 * LIMIT), (4 * LIMIT, 0)):
                for state in (0, 3):
                    self.assertEqual(filled(self.grove, field, (left, top, wide, high), state), field)
                    self.assertEqual(filled(self.grove, self.bare, (left, top, wide, high), state), self.bare)

    def test_the_earlier_field_stays(self):
        field = field_of(self.grove, [(0, 0, 1), (9, -4, 2)])
        filled(self.grove, field, WHOLE, 3)
        filled(self.grove, field, (0, 0, 1, 1), 0)
        self.assertEqual(cell_at(self.grove, field, 0, 0), 1)
        self.assertEqual(cell_at(self.grove, field, 1, 0), 0)
        self.assertEqual(field_of(self.grove, [(0, 0, 1), (9, -4, 2)]), field)

    def test_no_box_ahead_of_all_else(self):
        for box in NO_BOXES:
            for state in (0, 1, 8, True, None):
                self.refused(NoBox, filled, self.bare, box, state)

    def test_too_far_ahead_of_no_state(self):
        for box in BOXES_BEYOND:
            for state in (0, 1) + NO_STATES:
                self.refused(TooFar, filled, self.bare, box, state)

    def test_no_state(self):
        for state in NO_STATES:
            for box in ((0, 0, 1, 1), WHOLE, (0, 0, 0, 0), (5, 5, 0, 3), (LIMIT, LIMIT, 3, 0), (10**299, 0, 0, 1)):
                self.refused(NoState, filled, self.bare, box, state)


class CutOutTest(BoxesCase):
    def check(self, states, box):
        field = grown(self.grove, states)
        wanted = {place: state for place, state in states.items() if self.has(box, place[0], place[1])}
        with self.subTest(box=box):
            self.assertEqual(cut_out(self.grove, field, box), grown(self.grove, wanted))
            self.assertEqual(grown(self.grove, states), field)

    def test_within_over_and_beside(self):
        states = {(x, y): 1 + (x + y) % 7 for x in range(-5, 8) for y in range(-3, 6)}
        for box in (
            (0, 0, 1, 1),
            (-2, -1, 5, 3),
            (-5, -3, 13, 9),
            (-6, -4, 15, 11),
            (-50, -50, 100, 100),
            (-9, -9, 6, 8),
            (3, 2, 50, 1),
            (8, 0, 5, 5),
            (-6, -3, 1, 9),
            (0, 6, 2, 2),
            (100, 100, 5, 5),
            (-1, -1, 2, 2),
        ):
            self.check(states, box)

    def test_over_each_side_of_a_full_square(self):
        states = {(x, y): 2 for x in range(-4, 4) for y in range(-4, 4)}
        for left, top in itertools.product((-9, -5, -4, -3), repeat=2):
            for right, bottom in itertools.product((3, 4, 5, 9), repeat=2):
                self.check(states, (left, top, right - left, bottom - top))

    def test_against_the_states(self):
        chance = chance_of("cut out")
        for count in range(150):
            reach = chance.choice([2, 5, 17, 300])
            states = random_states(chance, chance.randrange(25), reach)
            box = (
                chance.randrange(-reach - 2, reach + 2),
                chance.randrange(-reach - 2, reach + 2),
                chance.randrange(0, 2 * reach),
                chance.randrange(0, 2 * reach),
            )
            self.check(states, box)

    def test_without_places(self):
        states = {(0, 0): 1, (-1, -1): 2}
        for left, top in itertools.product((-LIMIT - 5, -1, 0, LIMIT + 5), repeat=2):
            for wide, high in ((0, 0), (0, 9), (9, 0), (0, 10**299)):
                self.check(states, (left, top, wide, high))

    def test_outside_of_the_ground(self):
        states = {(0, 0): 1, (-LIMIT, 5): 2, (LIMIT - 1, LIMIT - 1): 3}
        for box in BOXES_BEYOND:
            self.check(states, box)
        self.check(states, (-(10**298), -(10**298), 10**299, 10**299))
        self.check(states, (-(10**298), -(10**298), 10**298, 10**299))
        self.check(states, (-LIMIT - 10, -LIMIT - 10, LIMIT + 10, 10 * LIMIT))

    def test_great_fields(self):
        whole = filled(self.grove, self.bare, WHOLE, 2)
        for box in ((-3, -4, 5, 6), (-LIMIT, 7, 2 * LIMIT, 1), (12345, -LIMIT, LIMIT - 12345, LIMIT), WHOLE):
            self.assertEqual(cut_out(self.grove, whole, box), filled(self.grove, self.bare, box, 2))

    def test_the_field_without_living_cells(self):
        for box in ((0, 0, 1, 1), (0, 0, 0, 0), WHOLE, (10**299, 0, 5, 5)):
            self.assertEqual(cut_out(self.grove, self.bare, box), self.bare)

    def test_no_box(self):
        for box in NO_BOXES:
            self.refused(NoBox, cut_out, self.bare, box)
            self.refused(NoBox, cut_out, field_of(self.grove, [(0, 0, 1)]), box)


if __name__ == "__main__":
    unittest.main()
