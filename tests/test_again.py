import unittest

from jumpfield.again import comes_again, kind_of, shape_of
from jumpfield.boxes import filled
from jumpfield.errors import FieldError, NoSteps, TooFar
from jumpfield.fields import LIMIT, field_of
from jumpfield.grove import Grove
from jumpfield.jumps import Jumps
from jumpfield.leaps import jump
from jumpfield.listing import box_of
from jumpfield.moves import moved_by
from jumpfield.rules import read_rule
from plain import LIFE, chance_of, grown, random_rule, random_states, step

NO_STEPS = (True, False, None, "", "1", (), (1,), [], 1.0, -1, -(10**299))
GLIDER = [(1, 0, 1), (2, 1, 1), (0, 2, 1), (1, 2, 1), (2, 2, 1)]
BLOCK = [(0, 0, 1), (1, 0, 1), (0, 1, 1), (1, 1, 1)]
BLINKER = [(0, 0, 1), (1, 0, 1), (2, 0, 1)]
# Each living cell goes one to the right at each step.
WALKING = "* ***1**** 1; * 0"


def again_by_words(text, states, most):
    """When a dict of states comes again, all shapes held against one another."""
    rows = [states]
    for count in range(most):
        rows.append(step(text, rows[-1]))
    for wait in range(most + 1):
        for time in range(1, most - wait + 1):
            shift = shift_between(rows[wait], rows[wait + time])
            if shift is not None:
                return (wait, time) + shift
    return None


def shift_between(first, second):
    if not first and not second:
        return (0, 0)
    if len(first) != len(second):
        return None
    dx = min(x for x, y in second) - min(x for x, y in first)
    dy = min(y for x, y in second) - min(y for x, y in first)
    moved = {(x + dx, y + dy): state for (x, y), state in first.items()}
    return (dx, dy) if moved == second else None


class AgainCase(unittest.TestCase):
    def setUp(self):
        self.grove = Grove()
        self.bare = field_of(self.grove, [])
        self.life = Jumps(self.grove, read_rule(LIFE))

    def refused(self, error, jumps, field, most):
        with self.subTest(most=most):
            with self.assertRaises(FieldError) as caught:
                comes_again(jumps, field, most)
            self.assertIs(caught.exception.__class__, error)

    def rule(self, text):
        return Jumps(self.grove, read_rule(text))


class ShapeOfTest(AgainCase):
    def test_odd_and_even_boxes(self):
        for wide in range(1, 7):
            for high in range(1, 7):
                for left, top in ((0, 0), (-3, 5), (100, -77), (-1, -1)):
                    field = filled(self.grove, self.bare, (left, top, wide, high), 3)
                    shape = filled(self.grove, self.bare, (-(wide // 2), -(high // 2), wide, high), 3)
                    self.assertEqual(shape_of(self.grove, field), (shape, left, top))
                    self.assertIs(shape_of(self.grove, field).__class__, tuple)

    def test_a_field_and_the_field_moved(self):
        chance = chance_of("shapes")
        for reach in (1, 3, 40, 2**30):
            for count in range(15):
                states = random_states(chance, chance.randrange(1, 12), reach)
                field = grown(self.grove, states)
                dx = chance.randint(-(2**38), 2**38)
                dy = chance.randint(-50, 50)
                moved = moved_by(self.grove, field, dx, dy)
                shape, left, top = shape_of(self.grove, field)
                self.assertEqual(shape_of(self.grove, moved), (shape, left + dx, top + dy))
                box = box_of(self.grove, field)
                self.assertEqual((left, top), box[:2])
                self.assertEqual(
                    box_of(self.grove, shape), (-(box[2] // 2), -(box[3] // 2), box[2], box[3])
                )
                self.assertEqual(moved_by(self.grove, shape, left + box[2] // 2, top + box[3] // 2), field)

    def test_unlike_fields_have_unlike_shapes(self):
        one = field_of(self.grove, [(0, 0, 1), (1, 0, 1)])
        other = field_of(self.grove, [(0, 0, 1), (0, 1, 1)])
        third = field_of(self.grove, [(0, 0, 1), (1, 0, 2)])
        self.assertEqual(len({shape_of(self.grove, field)[0] for field in (one, other, third)}), 3)

    def test_at_the_edges_of_the_ground(self):
        for x in (-LIMIT, 0, LIMIT - 1):
            for y in (-LIMIT, 0, LIMIT - 1):
                field = field_of(self.grove, [(x, y, 4)])
                self.assertEqual(shape_of(self.grove, field), (field_of(self.grove, [(0, 0, 4)]), x, y))
        for wide in (2 * LIMIT, 2 * LIMIT - 1, 2 * LIMIT - 2):
            field = filled(self.grove, self.bare, (-LIMIT, 5, wide, 1), 2)
            shape = filled(self.grove, self.bare, (-(wide // 2), 0, wide, 1), 2)
            self.assertEqual(shape_of(self.grove, field), (shape, -LIMIT, 5))
            field = filled(self.grove, self.bare, (7, LIMIT - wide, 1, wide), 2)
            shape = filled(self.grove, self.bare, (0, -(wide // 2), 1, wide), 2)
            self.assertEqual(shape_of(self.grove, field), (shape, 7, LIMIT - wide))
        whole = self.grove.solid(41, 6)
        self.assertEqual(shape_of(self.grove, whole), (whole, -LIMIT, -LIMIT))

    def test_the_field_without_living_cells(self):
        self.assertEqual(shape_of(self.grove, self.bare), (self.bare, 0, 0))


class ComesAgainTest(AgainCase):
    def told(self, cells, most, text=LIFE):
        return comes_again(self.rule(text), field_of(self.grove, cells), most)

    def test_still(self):
        for most in (1, 2, 100):
            self.assertEqual(self.told(BLOCK, most), (0, 1, 0, 0))
            self.assertEqual(self.told(GLIDER, most, ""), (0, 1, 0, 0))

    def test_swinging(self):
        self.assertEqual(self.told(BLINKER, 2), (0, 2, 0, 0))
        self.assertEqual(self.told(BLINKER, 100), (0, 2, 0, 0))
        self.assertIsNone(self.told(BLINKER, 1))
        self.assertEqual(self.told([(5, 5, 1)], 9, "1 2; 2 3; 3 4; 4 5; 5 6; 6 7; 7 1"), (0, 7, 0, 0))

    def test_gliding(self):
        self.assertEqual(self.told(GLIDER, 4), (0, 4, 1, 1))
        self.assertIsNone(self.told(GLIDER, 3))
        self.assertEqual(self.told([(-x, y, state) for x, y, state in GLIDER], 50), (0, 4, -1, 1))
        self.assertEqual(self.told([(x, -y, state) for x, y, state in GLIDER], 50), (0, 4, 1, -1))
        self.assertEqual(self.told([(0, 0, 1), (7, 3, 1)], 1, WALKING), (0, 1, 1, 0))

    def test_far_away(self):
        far = 2**39 + 12345
        self.assertEqual(self.told([(x - far, y + far, state) for x, y, state in GLIDER], 9), (0, 4, 1, 1))
        self.assertEqual(self.told([(x + far, y - far, state) for x, y, state in BLOCK], 9), (0, 1, 0, 0))

    def test_fields_that_first_wait(self):
        # Three steps until a cell stays as it is.
        text = "1 2; 2 3; 3 4"
        self.assertEqual(self.told([(0, 0, 1)], 4, text), (3, 1, 0, 0))
        self.assertIsNone(self.told([(0, 0, 1)], 3, text))
        # Two steps of waiting, then three that come again.
        text = "1 2; 2 3; 3 4; 4 5; 5 3"
        self.assertEqual(self.told([(0, 0, 1)], 5, text), (2, 3, 0, 0))
        self.assertIsNone(self.told([(0, 0, 1)], 4, text))
        self.assertEqual(self.told([(0, 0, 1), (1, 0, 1), (0, 1, 1)], 9), (1, 1, 0, 0))

    def test_a_wait_and_then_gliding(self):
        # A cell of state 2 waits two steps, then walks downwards.
        text = "2 3; 3 1; 0 *1****** 1; 1 0"
        self.assertEqual(self.told([(4, 4, 2)], 3, text), (2, 1, 0, 1))
        self.assertIsNone(self.told([(4, 4, 2)], 2, text))

    def test_fields_that_die(self):
        self.assertEqual(self.told([(0, 0, 1)], 2), (1, 1, 0, 0))
        self.assertIsNone(self.told([(0, 0, 1)], 1))
        self.assertEqual(self.told([(50, 60, 1), (0, 3, 1)], 100, "1 2; 2 3; 3 0"), (3, 1, 0, 0))

    def test_the_field_without_living_cells(self):
        self.assertEqual(comes_again(self.life, self.bare, 1), (0, 1, 0, 0))
        self.assertEqual(comes_again(self.life, self.bare, 10**299), (0, 1, 0, 0))
        self.assertIsNone(comes_again(self.life, self.bare, 0))

    def test_most_of_0_and_1(self):
        for cells in (BLOCK, BLINKER, GLIDER, [(0, 0, 1)], []):
            self.assertIsNone(self.told(cells, 0))
        self.assertEqual(self.told(BLOCK, 1), (0, 1, 0, 0))
        self.assertIsNone(self.told(BLINKER, 1))
        self.assertEqual(self.told([], 1), (0, 1, 0, 0))

    def test_that_do_not_come_again(self):
        self.assertIsNone(self.told([(0, 0, 1)], 60, "0 1=12345678 1"))
        self.assertIsNone(self.told([(1, 0, 1), (2, 0, 1), (0, 1, 1), (1, 1, 1), (1, 2, 1)], 150))

    def test_a_great_most(self):
        self.assertEqual(self.told(GLIDER, 10**299), (0, 4, 1, 1))

    def test_great_fields(self):
        jumps = self.rule("1 2; 2 1")
        field = filled(self.grove, self.bare, (-(2**38), 5, 2**39, 2**35), 1)
        self.assertEqual(comes_again(jumps, field, 5), (0, 2, 0, 0))

    def test_by_the_words_of_the_document(self):
        chance = chance_of("again")
        found = []
        for count in range(120):
            if count % 3 == 0:
                text = LIFE
            elif count % 3 == 1:
                text = chance.choice(["2 1; ", "2 0; ", "1 2=1 2; ", ""]) + "* ***1**** 1; 1 0"
            else:
                text = random_rule(chance, chance.randrange(1, 7), "012")
            states = random_states(chance, chance.randrange(8), 2, 2 if text != LIFE else 1)
            wanted = again_by_words(text, states, 12)
            jumps = self.rule(text)
            field = grown(self.grove, states)
            self.assertEqual(comes_again(jumps, field, 12), wanted)
            found.append(kind_of(wanted))
            if wanted is not None:
                wait, time, dx, dy = wanted
                self.assertEqual(comes_again(jumps, field, wait + time), wanted)
                self.assertIsNone(comes_again(jumps, field, wait + time - 1))
                early = jump(jumps, field, wait)
                self.assertEqual(jump(jumps, field, wait + time), moved_by(self.grove, early, dx, dy))
        self.assertEqual(set(found), {"open", "still", "swinging", "gliding"})

    def test_behind_a_change_of_rule(self):
        jumps = self.rule(LIFE)
        field = field_of(self.grove, BLINKER)
        self.assertEqual(comes_again(jumps, field, 9), (0, 2, 0, 0))
        jumps.change(read_rule(WALKING))
        self.assertEqual(comes_again(jumps, field, 9), (0, 1, 1, 0))
        jumps.change(read_rule("1 0"))
        self.assertEqual(comes_again(jumps, field, 9), (1, 1, 0, 0))
        jumps.change(read_rule(LIFE))
        self.assertEqual(comes_again(jumps, field, 9), (0, 2, 0, 0))

    def test_no_steps(self):
        for most in NO_STEPS:
            for cells in ([], BLOCK, [(LIMIT - 1, 0, 1)]):
                self.refused(NoSteps, self.life, field_of(self.grove, cells), most)

    def test_too_far_where_a_jump_that_is_made_is_refused(self):
        # The cell walks to the edge, and its shape is there again behind the first step.
        walking = self.rule(WALKING)
        for x, most in ((LIMIT - 1, 1), (LIMIT - 1, 50), (-LIMIT, 1)):
            self.refused(TooFar, walking, field_of(self.grove, [(x, 0, 1)]), most)
            self.refused(TooFar, walking, field_of(self.grove, [(0, x, 1)]), most)
        self.assertEqual(comes_again(walking, field_of(self.grove, [(LIMIT - 2, 0, 1)]), 1), (0, 1, 1, 0))
        self.assertEqual(comes_again(walking, field_of(self.grove, [(LIMIT - 2, 0, 1)]), 50), (0, 1, 1, 0))

    def test_not_too_far_where_no_jump_is_made(self):
        walking = self.rule(WALKING)
        self.assertIsNone(comes_again(walking, field_of(self.grove, [(LIMIT - 1, 0, 1)]), 0))
        self.assertIsNone(comes_again(walking, self.grove.solid(41, 1), 0))
        self.refused(TooFar, walking, self.grove.solid(41, 1), 1)

    def test_too_far_at_a_later_jump(self):
        # Two cells of which one stays and one walks: their shape is another one each time.
        parting = self.rule("* ***1**** 1; 1 0")
        for start in (2, 5, 9):
            field = field_of(self.grove, [(LIMIT - 1 - start, 0, 1), (LIMIT - 1 - start, 9, 2)])
            self.assertIsNone(comes_again(parting, field, start))
            self.refused(TooFar, parting, field, start + 1)
            self.refused(TooFar, parting, field, start + 100)

    def test_just_before_it_would_be_too_far(self):
        fading = self.rule("0 ***1**** 2; 1 0; 0 ***2**** 3; 2 0; 0 ***3**** 4; 3 0; 4 0")
        # States 1, 2, 3, 4, each one place farther, then death: the last jump is made of nothing.
        field = field_of(self.grove, [(LIMIT - 5, 0, 1)])
        self.assertEqual(comes_again(fading, field, 50), (4, 1, 0, 0))
        self.refused(TooFar, fading, field_of(self.grove, [(LIMIT - 4, 0, 1)]), 50)
        self.assertIsNone(comes_again(fading, field_of(self.grove, [(LIMIT - 4, 0, 1)]), 3))
        self.refused(TooFar, fading, field_of(self.grove, [(LIMIT - 4, 0, 1)]), 4)

    def test_the_field_stays(self):
        field = field_of(self.grove, GLIDER)
        comes_again(self.life, field, 20)
        self.assertEqual(field_of(self.grove, GLIDER), field)


class KindOfTest(unittest.TestCase):
    def test_each_of_the_four(self):
        self.assertEqual(kind_of(None), "open")
        for found in ((0, 1, 0, 0), (17, 1, 0, 0)):
            self.assertEqual(kind_of(found), "still")
        for found in ((0, 2, 0, 0), (5, 30, 0, 0), (1, 10**50, 0, 0)):
            self.assertEqual(kind_of(found), "swinging")
        for found in ((0, 4, 1, 1), (0, 1, 1, 0), (0, 1, 0, -1), (3, 2, -5, 0), (3, 2, 0, 7), (0, 9, 2, -2)):
            self.assertEqual(kind_of(found), "gliding")


if __name__ == "__main__":
    unittest.main()
