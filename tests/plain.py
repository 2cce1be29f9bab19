"""The document's words done cell by cell, to hold against what the program answers."""

import random

from jumpfield.fields import field_of
from jumpfield.grove import Grove
from jumpfield.listing import cells_of

LIMIT = 1099511627776
STEPS_AROUND = [(-1, -1), (0, -1), (1, -1), (-1, 0), (1, 0), (-1, 1), (0, 1), (1, 1)]
LIFE = "0 1=3 1; 1 1=23 1; 1 0"


def random_rule(chance, clauses, states="01234567"):
    """The text of some rule in which nothing comes of nothing."""
    texts = []
    for number in range(clauses):
        cell = chance.choice(states + "*")
        conditions = [random_condition(chance, states) for count in range(chance.randrange(4))]
        if cell in "0*":
            # A living neighbour is asked for, so nothing stays nothing.
            conditions.insert(chance.randrange(len(conditions) + 1), chance.choice(["0=01234567", "1=12345678"]))
        texts.append(" ".join([cell] + conditions + [chance.choice(states)]))
    return "; ".join(texts)


def random_condition(chance, states):
    if chance.random() < 0.6:
        numbers = sorted(chance.sample("012345678", chance.randrange(1, 7)))
        return chance.choice(states) + "=" + "".join(numbers)
    return "".join(chance.choice(states + "*" * 24) for place in range(8))


def clause_fits(text, cell, around):
    words = text.split(" ")
    if words[0] not in ("*", str(cell)):
        return False
    for word in words[1:-1]:
        if "=" in word:
            state, numbers = word.split("=")
            if str(around.count(int(state))) not in numbers:
                return False
        elif any(sign not in ("*", str(state)) for sign, state in zip(word, around)):
            return False
    return True


def rule_makes(text, cell, around):
    for clause in text.split("; ") if text else []:
        if clause_fits(clause, cell, around):
            return int(clause[-1])
    return cell


def around_of(states, x, y):
    return [states.get((x + dx, y + dy), 0) for dx, dy in STEPS_AROUND]


def step(text, states):
    """One plain step of a dict of states by their places."""
    places = set(states)
    for x, y in states:
        places.update((x + dx, y + dy) for dx, dy in STEPS_AROUND)
    made = {}
    for x, y in places:
        state = rule_makes(text, states.get((x, y), 0), around_of(states, x, y))
        if state:
            made[(x, y)] = state
    return made


def steps(text, states, amount):
    for count in range(amount):
        states = step(text, states)
    return states


def listed(states):
    cells = [(x, y, state) for (x, y), state in states.items() if state]
    return sorted(cells, key=lambda cell: (cell[1], cell[0]))


def states_of(grove, field):
    return {(x, y): state for x, y, state in cells_of(grove, field)}


def grown(grove, states):
    """The field of a dict of states by their places."""
    return field_of(grove, [(x, y, state) for (x, y), state in states.items()])


def random_states(chance, amount, reach, states=7):
    return {
        (chance.randrange(-reach, reach), chance.randrange(-reach, reach)): chance.randrange(1, states + 1)
        for count in range(amount)
    }


def square_of(grove, level, states):
    """The square of a level in which, from its upper left cell on, these places have these states."""
    if level == 0:
        return grove.leaf(states.get((0, 0), 0))
    half = 2 ** (level - 1)
    quarters = []
    for top in (0, half):
        for left in (0, half):
            part = {
                (x - left, y - top): state
                for (x, y), state in states.items()
                if left <= x < left + half and top <= y < top + half
            }
            quarters.append(square_of(grove, level - 1, part) if part else grove.solid(level - 1, 0))
    return grove.joined(*quarters)


def cells_in(grove, square):
    """The living cells of a square, as a dict, told from its upper left cell on."""
    if grove.living(square) == 0:
        return {}
    level = grove.level_of(square)
    if level == 0:
        return {(0, 0): grove.state_of(square)}
    half = 2 ** (level - 1)
    found = {}
    for place, quarter in enumerate(grove.quarters(square)):
        for (x, y), state in cells_in(grove, quarter).items():
            found[(x + half * (place % 2), y + half * (place // 2))] = state
    return found


def new_grove():
    return Grove()


def chance_of(seed):
    """The same row of choices each time."""
    return random.Random(seed)
