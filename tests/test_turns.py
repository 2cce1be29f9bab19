import itertools
import unittest

from jumpfield.boxes import filled
from jumpfield.fields import LIMIT, field_of
from jumpfield.grove import Grove
from jumpfield.listing import box_of
from jumpfield.turns import mirror, turn_left
from plain import chance_of, grown, random_states

PLACES = list(itertools.product((-LIMIT, -1000, -8, -7, -2, -1, 0, 1, 3, 4, 77, LIMIT - 1), repeat=2))


def turned(states):
    return {(y, -1 - x): state for (x, y), state in states.items()}


def mirrored(states):
    return {(-1 - x, y): state for (x, y), state in states.items()}


class TurnsTest(unittest.TestCase):
    def setUp(self):
        self.grove = Grove()
        self.bare = field_of(self.grove, [])

    def check(self, states):
        field = grown(self.grove, states)
        self.assertEqual(turn_left(self.grove, field), grown(self.grove, turned(states)))
        self.assertEqual(mirror(self.grove, field), grown(self.grove, mirrored(states)))
        self.assertEqual(grown(self.grove, states), field)

    def test_single_cells(self):
        for place in PLACES:
            self.check({place: 3})

    def test_told_by_hand(self):
        field = field_of(self.grove, [(5, 2, 1), (-1, -1, 2)])
        self.assertEqual(turn_left(self.grove, field), field_of(self.grove, [(2, -6, 1), (-1, 0, 2)]))
        self.assertEqual(mirror(self.grove, field), field_of(self.grove, [(-6, 2, 1), (0, -1, 2)]))

    def test_many_cells(self):
        chance = chance_of("turns")
        for reach in (1, 2, 5, 30, 4000, LIMIT):
            for count in range(20):
                self.check(random_states(chance, chance.randrange(1, 60), reach))

    def test_four_times_and_twice(self):
        chance = chance_of("four times")
        for reach in (2, 30, LIMIT):
            field = grown(self.grove, random_states(chance, 25, reach))
            seen = [field]
            for count in range(4):
                seen.append(turn_left(self.grove, seen[-1]))
            self.assertEqual(seen[4], field)
            self.assertEqual(len(set(seen)), 4)
            self.assertEqual(mirror(self.grove, mirror(self.grove, field)), field)
            self.assertNotEqual(mirror(self.grove, field), field)

    def test_mirrored_between_turns(self):
        field = grown(self.grove, random_states(chance_of("between"), 25, 50))
        round_about = turn_left(self.grove, mirror(self.grove, turn_left(self.grove, field)))
        self.assertEqual(round_about, mirror(self.grove, field))

    def test_the_field_without_living_cells(self):
        self.assertEqual(turn_left(self.grove, self.bare), self.bare)
        self.assertEqual(mirror(self.grove, self.bare), self.bare)

    def test_far_and_great_boxes(self):
        chance = chance_of("far boxes")
        for count in range(30):
            left = chance.randrange(-LIMIT, LIMIT)
            top = chance.randrange(-LIMIT, LIMIT)
            wide = chance.randrange(1, LIMIT - left + 1)
            high = chance.randrange(1, LIMIT - top + 1)
            field = filled(self.grove, self.bare, (left, top, wide, high), 6)
            left_box = (top, -left - wide, high, wide)
            other_box = (-left - wide, top, wide, high)
            self.assertEqual(turn_left(self.grove, field), filled(self.grove, self.bare, left_box, 6))
            self.assertEqual(mirror(self.grove, field), filled(self.grove, self.bare, other_box, 6))
            self.assertEqual(box_of(self.grove, turn_left(self.grove, field)), left_box)

    def test_the_whole_ground(self):
        whole = self.grove.solid(41, 5)
        self.assertEqual(turn_left(self.grove, whole), whole)
        self.assertEqual(mirror(self.grove, whole), whole)


if __name__ == "__main__":
    unittest.main()
