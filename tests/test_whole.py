import unittest

from jumpfield.errors import FieldError
from jumpfield.patterns import shown_pattern
from jumpfield.world import World
from plain import LIFE, LIMIT, chance_of, grown, random_rule, random_states, step


class Model:
    """A world in which each field is a dict of states by their places, gone through cell by cell."""

    def __init__(self):
        self.rule = ""
        self.fields = {}

    def put(self, name, x, y, state):
        self.fields[name][(x, y)] = state

    def fill(self, name, left, top, wide, high, state):
        for x in range(left, left + wide):
            for y in range(top, top + high):
                self.fields[name][(x, y)] = state

    def cut(self, name, left, top, wide, high):
        self.change(
            name,
            lambda x, y: (x, y) if left <= x < left + wide and top <= y < top + high else None,
        )

    def change(self, name, place_of):
        made = {}
        for (x, y), state in self.fields[name].items():
            place = place_of(x, y)
            if place is not None:
                made[place] = state
        self.fields[name] = made

    def jump(self, name, n):
        states = {place: state for place, state in self.fields[name].items() if state}
        for count in range(n):
            states = step(self.rule, states)
        self.fields[name] = states

    def living(self, name):
        return {place: state for place, state in self.fields[name].items() if state}


DEEDS = ["rule", "field", "copy", "lay", "put", "fill", "cut", "turn", "mirror", "move", "jump", "jump"]


class WholeTest(unittest.TestCase):
    """Rows told to a world and to the model at once."""

    def do(self, chance, world, model):
        name = chance.choice(sorted(model.fields))
        other = chance.choice(sorted(model.fields))
        new = chance.choice("abcd")
        a, b = chance.randint(-6, 6), chance.randint(-6, 6)
        wide, high = chance.randint(0, 5), chance.randint(0, 5)
        state = chance.randint(0, 3)
        deed = chance.choice(DEEDS)
        if deed == "rule":
            model.rule = chance.choice([LIFE, "", "1 2; 2 3; 3 1", random_rule(chance, 5, "0123")])
            row = f"rule {model.rule}"
        elif deed == "field":
            model.fields[new] = random_states(chance, 8, 4, 3)
            row = f"field {new} {shown_pattern(world.grove, grown(world.grove, model.fields[new]))}"
        elif deed == "copy":
            model.fields[new] = dict(model.fields[name])
            row = f"copy {new} {name}"
        elif deed == "lay":
            model.fields[new] = {**model.fields[name], **model.living(other)}
            row = f"lay {new} {name} {other}"
        elif deed == "put":
            model.put(name, a, b, state)
            row = f"put {name} {a} {b} {state}"
        elif deed == "fill":
            model.fill(name, a, b, wide, high, state)
            row = f"fill {name} {a} {b} {wide} {high} {state}"
        elif deed == "cut":
            model.cut(name, a - 6, b - 6, 2 * wide + 6, 2 * high + 6)
            row = f"cut {name} {a - 6} {b - 6} {2 * wide + 6} {2 * high + 6}"
        elif deed == "turn":
            model.change(name, lambda x, y: (y, -1 - x))
            row = f"turn {name}"
        elif deed == "mirror":
            model.change(name, lambda x, y: (-1 - x, y))
            row = f"mirror {name}"
        elif deed == "move":
            model.change(name, lambda x, y: (x + a, y + b))
            row = f"move {name} {a} {b}"
        else:
            model.jump(name, wide)
            row = f"jump {name} {wide}"
        self.assertEqual(world.say(row), "ok")
        return row

    def hold(self, world, model, rows):
        for name in model.fields:
            living = model.living(name)
            field = grown(world.grove, living)
            self.assertEqual(world.say(f"show {name}"), shown_pattern(world.grove, field), rows)
            self.assertEqual(world.say(f"count {name}"), str(len(living)), rows)
            for other in model.fields:
                same = "yes" if model.living(other) == living else "no"
                self.assertEqual(world.say(f"same {name} {other}"), same, rows)

    def test_some_rows(self):
        for seed in range(12):
            chance = chance_of(f"whole {seed}")
            world = World()
            model = Model()
            model.fields["a"] = {}
            rows = ["field a 0,0:"]
            world.say(rows[0])
            for count in range(40):
                rows.append(self.do(chance, world, model))
                self.hold(world, model, rows)

    def test_what_is_refused_changes_nothing(self):
        wrong = [
            "rule 0 1",
            "rule 1",
            "field a 0,0",
            f"field b {LIMIT},0:A",
            "copy A a",
            "copy b z",
            "lay a a z",
            "drop z",
            f"put a {LIMIT} 0 1",
            "put a 0 0 8",
            "fill a 0 0 -1 1 1",
            f"fill a {LIMIT} 0 1 1 1",
            "cut a 0 0 1 -1",
            "turn z",
            f"move a {2 * LIMIT} 0",
            f"jump a {LIMIT}",
            "jump a -1",
            "again a -1",
            "nothing",
            "show a ",
        ]
        chance = chance_of("refused rows")
        world = World()
        model = Model()
        model.fields["a"] = {(0, 0): 1}
        rows = ["field a 0,0:A"]
        world.say(rows[0])
        for count in range(60):
            rows.append(self.do(chance, world, model))
            model.put("a", 0, 0, 1)
            world.say("put a 0 0 1")
            row = chance.choice(wrong)
            with self.assertRaises(FieldError):
                world.say(row)
            self.hold(world, model, rows)


if __name__ == "__main__":
    unittest.main()
