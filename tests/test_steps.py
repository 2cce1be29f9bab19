import unittest

from jumpfield.rules import read_rule
from jumpfield.steps import stepped
from plain import LIFE, LIMIT, chance_of, listed, random_rule, random_states, step

GLIDER = [(1, 0, 1), (2, 1, 1), (0, 2, 1), (1, 2, 1), (2, 2, 1)]


class StepsTest(unittest.TestCase):
    def check(self, text, states, chance):
        cells = [(x, y, state) for (x, y), state in states.items()]
        chance.shuffle(cells)
        handed = list(cells)
        self.assertEqual(stepped(read_rule(text), handed), listed(step(text, states)))
        self.assertEqual(handed, cells)

    def test_amounts(self):
        rule = read_rule(LIFE)
        self.assertEqual(stepped(rule, [(0, 0, 1), (1, 0, 1), (2, 0, 1)]), [(1, -1, 1), (1, 0, 1), (1, 1, 1)])
        self.assertEqual(stepped(rule, [(0, 0, 1), (1, 0, 1)]), [])
        block = [(0, 0, 1), (1, 0, 1), (0, 1, 1), (1, 1, 1)]
        self.assertEqual(stepped(rule, block), block)

    def test_a_gliding_one(self):
        rule = read_rule(LIFE)
        cells = GLIDER
        for count in range(4):
            cells = stepped(rule, cells)
        self.assertEqual(cells, [(x + 1, y + 1, state) for x, y, state in GLIDER])

    def test_places(self):
        # Each cell with the told neighbour on its left goes to the right.
        rule = read_rule("0 ***1**** 1; 1 0")
        self.assertEqual(stepped(rule, [(5, 5, 1), (7, 5, 1)]), [(6, 5, 1), (8, 5, 1)])
        rule = read_rule("0 *******2 2; 2 0")
        self.assertEqual(stepped(rule, [(5, 5, 2)]), [(4, 4, 2)])
        for number, (dx, dy) in enumerate([(-1, -1), (0, -1), (1, -1), (-1, 0), (1, 0), (-1, 1), (0, 1), (1, 1)]):
            rule = read_rule("0 " + "*" * number + "3" + "*" * (7 - number) + " 4")
            told = sorted([(0, 0, 3), (-dx, -dy, 4)], key=lambda cell: (cell[1], cell[0]))
            self.assertEqual(stepped(rule, [(0, 0, 3)]), told)

    def test_several_clauses(self):
        rule = read_rule("1 2; 2 3; 3 0; 0 1=12 4; 4 0")
        self.assertEqual(stepped(rule, [(0, 0, 2), (9, 9, 3)]), [(0, 0, 3)])
        around = [(x, y, 4) for y in (-1, 0, 1) for x in (-1, 0, 1)]
        around[4] = (0, 0, 2)
        self.assertEqual(stepped(rule, [(0, 0, 1)]), around)

    def test_the_rule_without_clauses(self):
        cells = [(3, 3, 1), (-5, 2, 7), (0, 2, 4)]
        self.assertEqual(stepped(read_rule(""), cells), [(-5, 2, 7), (0, 2, 4), (3, 3, 1)])

    def test_nothing_lives(self):
        for text in ("", LIFE, "1 0", "* 0", "0 1=12345678 7"):
            self.assertEqual(stepped(read_rule(text), []), [])
        self.assertEqual(stepped(read_rule("* 0"), [(0, 0, 1), (5, 5, 7)]), [])

    def test_against_the_words_of_the_document(self):
        chance = chance_of("steps")
        for count in range(120):
            states = chance.choice(["01", "0123", "01234567"])
            text = random_rule(chance, chance.randrange(9), states)
            reach = chance.choice([1, 2, 5, 30])
            self.check(text, random_states(chance, chance.randrange(25), reach, len(states) - 1), chance)

    def test_outside_of_the_ground(self):
        rule = read_rule(LIFE)
        for far in (LIMIT - 1, LIMIT, -LIMIT - 1, 10**40, -(10**298)):
            told = stepped(rule, [(far, 0, 1), (far + 1, 0, 1), (far + 2, 0, 1)])
            self.assertEqual(told, [(far + 1, -1, 1), (far + 1, 0, 1), (far + 1, 1, 1)])
            told = stepped(rule, [(0, far, 1), (0, far + 1, 1), (0, far + 2, 1)])
            self.assertEqual(told, [(-1, far + 1, 1), (0, far + 1, 1), (1, far + 1, 1)])

    def test_the_answer_is_sorted(self):
        cells = [(x, y, 1) for x in (5, -9, 0) for y in (3, -3, 0)]
        told = stepped(read_rule(""), cells)
        self.assertEqual(told, sorted(cells, key=lambda cell: (cell[1], cell[0])))

    def test_any_order(self):
        chance = chance_of("any order")
        rule = read_rule(LIFE)
        cells = [(x, y, 1) for x, y in random_states(chance, 60, 6, 1)]
        told = stepped(rule, cells)
        for count in range(10):
            chance.shuffle(cells)
            self.assertEqual(stepped(rule, cells), told)

    def test_a_new_list_each_time(self):
        rule = read_rule("")
        cells = [(0, 0, 1), (1, 0, 2)]
        told = stepped(rule, cells)
        self.assertIsNot(told, cells)
        told.clear()
        self.assertEqual(cells, [(0, 0, 1), (1, 0, 2)])
        self.assertEqual(stepped(rule, cells), [(0, 0, 1), (1, 0, 2)])

    def test_many_cells(self):
        cells = [(x, y, 1) for y in range(50) for x in range(100)]
        told = stepped(read_rule(LIFE), cells)
        states = {(x, y): state for x, y, state in cells}
        self.assertEqual(told, listed(step(LIFE, states)))


if __name__ == "__main__":
    unittest.main()
