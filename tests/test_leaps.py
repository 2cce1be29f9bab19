import unittest

from jumpfield.boxes import filled
from jumpfield.errors import FieldError, NoSteps, TooFar
from jumpfield.fields import LIMIT, field_of, trimmed, widened
from jumpfield.grove import Grove
from jumpfield.jumps import Jumps
from jumpfield.layers import laid_over
from jumpfield.leaps import jump, road
from jumpfield.listing import box_of, cells_of
from jumpfield.moves import moved_by
from jumpfield.rules import mirrored_rule, read_rule, shown_rule, turned_rule
from jumpfield.steps import stepped
from jumpfield.turns import mirror, turn_left
from plain import LIFE, chance_of, grown, listed, random_rule, random_states, steps

NO_STEPS = (True, False, None, "", "1", (), (1,), [], 1.0, -1, -(10**299))
GLIDER = [(1, 0, 1), (2, 1, 1), (0, 2, 1), (1, 2, 1), (2, 2, 1)]
GROWING = "0 1=12345678 1"
# Each cell of state 1 goes to the right, and each of state 2 downwards.
WALKING = "* ***1**** 1; * *2****** 2; * 0"


class LeapsCase(unittest.TestCase):
    def setUp(self):
        self.grove = Grove()
        self.bare = field_of(self.grove, [])
        self.life = Jumps(self.grove, read_rule(LIFE))

    def refused(self, error, deed, *things):
        with self.subTest(deed=deed.__name__, things=things):
            with self.assertRaises(FieldError) as caught:
                deed(*things)
            self.assertIs(caught.exception.__class__, error)


class JumpTest(LeapsCase):
    def test_by_0(self):
        for field in (self.bare, field_of(self.grove, GLIDER), self.grove.solid(41, 3)):
            self.assertEqual(jump(self.life, field, 0), field)

    def test_against_plain_steps(self):
        chance = chance_of("leaps")
        for count in range(60):
            text = LIFE if count % 3 == 0 else random_rule(chance, chance.randrange(1, 9), "0123")
            states = random_states(chance, chance.randrange(1, 30), chance.choice([1, 2, 4, 9]), 3)
            jumps = Jumps(self.grove, read_rule(text))
            field = grown(self.grove, states)
            for n in (1, 2, 3, chance.randrange(4, 12)):
                wanted = grown(self.grove, steps(text, states, n))
                self.assertEqual(jump(jumps, field, n), wanted)
                self.assertEqual(jump(jumps, field, n), wanted)

    def test_against_the_steps_of_the_program(self):
        rule = read_rule(LIFE)
        cells = [(1, 0, 1), (2, 0, 1), (0, 1, 1), (1, 1, 1), (1, 2, 1)]
        field = field_of(self.grove, cells)
        step_by_step = field
        for n in range(1, 130):
            cells = stepped(rule, cells)
            step_by_step = jump(self.life, step_by_step, 1)
            self.assertEqual(cells_of(self.grove, step_by_step), cells)
            self.assertEqual(jump(self.life, field, n), step_by_step)

    def test_a_long_lived_one(self):
        field = field_of(self.grove, [(1, 0, 1), (2, 0, 1), (0, 1, 1), (1, 1, 1), (1, 2, 1)])
        self.assertEqual(self.grove.living(jump(self.life, field, 1103)), 116)
        self.assertEqual(self.grove.living(jump(self.life, field, 10**9)), 116)

    def test_at_once_and_one_behind_the_other(self):
        chance = chance_of("n + m")
        for text in (LIFE, GROWING, WALKING, "1 2; 2 3; 3 1", "0 1=2 1; 1 2; 2 0"):
            jumps = Jumps(self.grove, read_rule(text))
            field = grown(self.grove, random_states(chance, 8, 4, 2))
            for n, m in ((1, 1), (3, 5), (64, 100), (127, 129), (1000, 24)):
                whole = jump(jumps, field, n + m)
                self.assertEqual(jump(jumps, jump(jumps, field, n), m), whole)
                self.assertEqual(jump(jumps, jump(jumps, field, m), n), whole)

    def test_far_gliding_cells(self):
        for n in (4, 400, 2**20, 2**39 + 4, 4 * (2**37 + 12345)):
            start = field_of(self.grove, [(x - LIMIT + n, y - LIMIT + n, state) for x, y, state in GLIDER])
            far = n // 4
            told = jump(self.life, start, n)
            self.assertEqual(told, moved_by(self.grove, start, far, far))

    def test_walking_cells(self):
        jumps = Jumps(self.grove, read_rule(WALKING))
        field = field_of(self.grove, [(0, 0, 1), (-7, 100, 1), (3, -5, 2)])
        for n in (1, 10, 1000, 2**30 + 5, 2**39 + 2**38 + 77):
            told = [(3, n - 5, 2), (n, 0, 1), (n - 7, 100, 1)]
            if n > 100:
                told = [(n, 0, 1), (n - 7, 100, 1), (3, n - 5, 2)]
            self.assertEqual(jump(jumps, field, n), field_of(self.grove, told))

    def test_growing_boxes(self):
        jumps = Jumps(self.grove, read_rule(GROWING))
        for box in ((0, 0, 1, 1), (-5, 17, 30, 2), (-(2**35), 99, 2**33, 2**34)):
            field = filled(self.grove, self.bare, box, 1)
            for n in (1, 2, 7, 1000, 2**38 - 1, 2**39):
                larger = (box[0] - n, box[1] - n, box[2] + 2 * n, box[3] + 2 * n)
                self.assertEqual(jump(jumps, field, n), filled(self.grove, self.bare, larger, 1))

    def test_two_copies_apart(self):
        one = field_of(self.grove, GLIDER)
        two = laid_over(self.grove, one, moved_by(self.grove, one, -(2**38), 2**37))
        for n in (4, 1000, 2**35):
            after = jump(self.life, one, n)
            both = laid_over(self.grove, after, moved_by(self.grove, after, -(2**38), 2**37))
            self.assertEqual(jump(self.life, two, n), both)

    def test_turned_mirrored_and_moved(self):
        chance = chance_of("turned leaps")
        for count in range(12):
            rule = read_rule(WALKING if count == 0 else random_rule(chance, 7, "0123"))
            field = grown(self.grove, random_states(chance, 12, 5, 3))
            jumps = Jumps(self.grove, rule)
            turned = Jumps(self.grove, turned_rule(rule))
            mirrored = Jumps(self.grove, mirrored_rule(rule))
            for n in (1, 5, 16):
                after = jump(jumps, field, n)
                self.assertEqual(jump(turned, turn_left(self.grove, field), n), turn_left(self.grove, after))
                self.assertEqual(jump(mirrored, mirror(self.grove, field), n), mirror(self.grove, after))
                moved = moved_by(self.grove, field, 1001, -377)
                self.assertEqual(jump(jumps, moved, n), moved_by(self.grove, after, 1001, -377))

    def test_fields_that_die(self):
        field = field_of(self.grove, [(0, 0, 1), (1, 0, 1)])
        for n in (1, 2, 1000, 2**40 - 2):
            self.assertEqual(jump(self.life, field, n), self.bare)
        fading = Jumps(self.grove, read_rule("1 2; 2 3; 3 0"))
        field = field_of(self.grove, [(0, 0, 1), (50, 9, 2)])
        self.assertEqual(jump(fading, field, 2), field_of(self.grove, [(0, 0, 3)]))
        self.assertEqual(jump(fading, field, 3), self.bare)
        self.assertEqual(jump(fading, field, 2**30 + 7), self.bare)

    def test_the_field_without_living_cells(self):
        for n in (0, 1, 7, LIMIT, 2 * LIMIT, 10**299):
            self.assertEqual(jump(self.life, self.bare, n), self.bare)

    def test_behind_a_change_of_rule(self):
        chance = chance_of("leaps and change")
        states = random_states(chance, 20, 5, 3)
        field = grown(self.grove, states)
        jumps = Jumps(self.grove, read_rule(LIFE))
        texts = [LIFE, "1 2; 2 3; 3 1", LIFE, "", "0 1=2 1; 1 2; 2 0", LIFE]
        for text in texts:
            jumps.change(read_rule(text))
            for n in (1, 6, 8):
                self.assertEqual(jump(jumps, field, n), grown(self.grove, steps(text, states, n)))
        here = field
        for text in texts:
            jumps.change(read_rule(text))
            here = jump(jumps, here, 3)
            states = steps(text, states, 3)
            self.assertEqual(cells_of(self.grove, here), listed(states))

    def test_a_turned_rule_is_another_rule(self):
        rule = read_rule(WALKING)
        jumps = Jumps(self.grove, rule)
        field = field_of(self.grove, [(0, 0, 1)])
        self.assertEqual(jump(jumps, field, 5), field_of(self.grove, [(5, 0, 1)]))
        jumps.change(turned_rule(rule))
        self.assertNotEqual(shown_rule(turned_rule(rule)), WALKING)
        self.assertEqual(jump(jumps, field, 5), field_of(self.grove, [(0, -5, 1)]))

    def test_no_steps(self):
        for n in NO_STEPS:
            for field in (self.bare, field_of(self.grove, GLIDER), self.grove.solid(41, 1)):
                self.refused(NoSteps, jump, self.life, field, n)
                self.refused(NoSteps, road, self.life, field, n)

    def test_too_far_just_where_the_larger_box_leaves_the_ground(self):
        still = Jumps(self.grove, read_rule(""))
        for x, y, most in (
            (0, 0, LIMIT - 1),
            (-1, -1, LIMIT - 1),
            (-5, 3, LIMIT - 5),
            (5, 3, LIMIT - 6),
            (3, 7, LIMIT - 8),
            (3, -7, LIMIT - 7),
            (LIMIT - 1, 0, 0),
            (0, -LIMIT, 0),
        ):
            field = field_of(self.grove, [(x, y, 1)])
            self.assertEqual(jump(still, field, most), field)
            for n in (most + 1, most + 2, LIMIT, 2 * LIMIT, 10**299):
                self.refused(TooFar, jump, still, field, n)
                self.refused(TooFar, road, still, field, n)

    def test_too_far_at_each_side_of_a_box(self):
        still = Jumps(self.grove, read_rule(""))
        for box, most in (
            ((-10, 5, 3, 100), LIMIT - 105),
            ((-10, -50, 3, 20), LIMIT - 50),
            ((5, -10, 100, 3), LIMIT - 105),
            ((-50, -10, 20, 3), LIMIT - 50),
            ((-LIMIT + 9, 0, 2 * LIMIT - 16, 1), 7),
            ((0, -LIMIT + 9, 1, 2 * LIMIT - 11), 2),
        ):
            field = filled(self.grove, self.bare, box, 1)
            self.assertEqual(jump(still, field, most), field)
            self.refused(TooFar, jump, still, field, most + 1)

    def test_too_far_whatever_the_field_would_become(self):
        dying = Jumps(self.grove, read_rule("* 0"))
        field = field_of(self.grove, [(0, LIMIT - 3, 1)])
        self.assertEqual(jump(dying, field, 2), self.bare)
        self.refused(TooFar, jump, dying, field, 3)
        self.assertEqual(jump(dying, jump(dying, field, 1), 10**299), self.bare)

    def test_the_whole_ground(self):
        whole = self.grove.solid(41, 1)
        self.assertEqual(jump(self.life, whole, 0), whole)
        self.refused(TooFar, jump, self.life, whole, 1)

    def test_a_box_up_to_the_edges(self):
        for n in (1, 5, 1000, 2**39):
            box = (n - LIMIT, n - LIMIT, 2 * LIMIT - 2 * n, 2 * LIMIT - 2 * n)
            field = filled(self.grove, self.bare, box, 1)
            growing = Jumps(self.grove, read_rule(GROWING))
            self.assertEqual(jump(growing, field, n), self.grove.solid(41, 1))
            self.refused(TooFar, jump, growing, field, n + 1)

    def test_the_earlier_field_stays(self):
        field = field_of(self.grove, GLIDER)
        jump(self.life, field, 1000)
        self.assertEqual(field_of(self.grove, GLIDER), field)
        self.assertEqual(box_of(self.grove, field), (0, 0, 3, 3))


class RoadTest(LeapsCase):
    def check(self, jumps, field, n):
        """The road told again by the document's words."""
        grove = self.grove
        told = road(jumps, field, n)
        self.assertIs(told.__class__, list)
        here = field
        wanted = []
        for e in range(n.bit_length()):
            if n & 2**e and grove.living(here):
                m = grove.level_of(here)
                k = 2
                while not 2 ** (m - 1) + 2**e <= 2 ** (k - 2):
                    k += 1
                square = here
                while grove.level_of(square) < k:
                    square = widened(grove, square)
                result = jumps.after(square, e)
                wanted.append((square, e, result))
                here = trimmed(grove, result)
        self.assertEqual(told, wanted)
        self.assertEqual(jump(jumps, field, n), here)
        if told:
            self.assertEqual(trimmed(grove, told[-1][2]), here)

    def test_by_the_words(self):
        chance = chance_of("roads")
        for count in range(40):
            text = LIFE if count % 3 == 0 else random_rule(chance, chance.randrange(1, 8), "0123")
            jumps = Jumps(self.grove, read_rule(text))
            field = grown(self.grove, random_states(chance, chance.randrange(12), chance.choice([1, 3, 20]), 3))
            for n in (0, 1, 2, 3, 4, 5, 8, 15, 21, 32):
                self.check(jumps, field, n)

    def test_levels_by_hand(self):
        still = Jumps(self.grove, read_rule(""))
        # m is 1 for a cell at (0, 0) and 3 for one at (3, 0).
        for x, e, k in ((0, 0, 3), (0, 1, 4), (0, 2, 5), (0, 10, 13), (3, 0, 5), (3, 2, 5), (3, 3, 6), (3, 1, 5)):
            field = field_of(self.grove, [(x, 0, 1)])
            told = road(still, field, 2**e)
            self.assertEqual([(self.grove.level_of(square), power) for square, power, result in told], [(k, e)])
            self.assertEqual(self.grove.level_of(told[0][2]), k - 1)

    def test_far_ones(self):
        start = field_of(self.grove, [(x - 2**39, y - 2**39, state) for x, y, state in GLIDER])
        self.check(self.life, start, 2**38 + 2**20 + 5)
        self.check(Jumps(self.grove, read_rule(GROWING)), start, 2**39 - 1)

    def test_the_powers_from_the_least_on(self):
        still = Jumps(self.grove, read_rule(""))
        field = field_of(self.grove, [(0, 0, 1)])
        self.assertEqual([e for square, e, result in road(still, field, 0b110101)], [0, 2, 4, 5])
        self.assertEqual([e for square, e, result in road(still, field, 2**40 - 1)], list(range(40)))

    def test_no_tuples(self):
        self.assertEqual(road(self.life, field_of(self.grove, GLIDER), 0), [])
        for n in (0, 1, 9, LIMIT, 10**299):
            self.assertEqual(road(self.life, self.bare, n), [])

    def test_none_behind_the_death(self):
        field = field_of(self.grove, [(0, 0, 1)])
        told = road(self.life, field, 2**20 - 1)
        self.assertEqual(len(told), 1)
        self.assertEqual(self.grove.living(told[0][2]), 0)
        fading = Jumps(self.grove, read_rule("1 2; 2 3; 3 4; 4 0"))
        told = road(fading, field, 2**20 - 1)
        self.assertEqual([e for square, e, result in told], [0, 1, 2])
        self.check(fading, field, 2**20 - 1)

    def test_a_new_list_each_time(self):
        field = field_of(self.grove, GLIDER)
        told = road(self.life, field, 7)
        kept = list(told)
        told.clear()
        self.assertEqual(road(self.life, field, 7), kept)


if __name__ == "__main__":
    unittest.main()
