"""States, surroundings, and the clauses of a rule one by one (points 5 to 7)."""

from jumpfield.errors import NoRule
from jumpfield.figures import is_whole

STATES = 8
NEIGHBOURS = 8
STATE_FIGURES = "01234567"
AMOUNT_FIGURES = "012345678"
ANY_SIGN = "*"


def is_state(thing):
    return is_whole(thing) and 0 <= thing < STATES


# The order of this list is the order of all surroundings, and of the signs of a condition on places.
def places_around(x, y):
    return [
        (x - 1, y - 1),
        (x, y - 1),
        (x + 1, y - 1),
        (x - 1, y),
        (x + 1, y),
        (x - 1, y + 1),
        (x, y + 1),
        (x + 1, y + 1),
    ]


# A wanted state is a state, or None where any state is taken.
def takes(wanted, state):
    return wanted is None or wanted == state


class Amounts:
    def __init__(self, state, numbers):
        self.state = state
        self.numbers = numbers

    def holds(self, around):
        return around.count(self.state) in self.numbers


class Places:
    def __init__(self, wanted):
        self.wanted = wanted

    def holds(self, around):
        return all([takes(one, state) for one, state in zip(self.wanted, around)])


class Clause:
    def __init__(self, cell, conditions, makes):
        self.cell = cell
        self.conditions = conditions
        self.makes = makes

    def fits(self, cell, around):
        return takes(self.cell, cell) and all([condition.holds(around) for condition in self.conditions])


def read_clause(text):
    if not isinstance(text, str):
        raise NoRule("what is no text tells no clause")
    # Two blanks side by side leave a word without signs, which is refused as any other wrong word.
    words = text.split(" ")
    if len(words) < 2:
        raise NoRule("a clause has two words or more")
    cell = read_wanted(words[0])
    conditions = tuple([read_condition(word) for word in words[1:-1]])
    return Clause(cell, conditions, read_state(words[-1]))


def read_state(word):
    # A text without signs lies in every text, so `in` alone would not refuse it.
    if len(word) != 1 or word not in STATE_FIGURES:
        raise NoRule("a state is a figure from 0 to 7")
    return int(word)


def read_wanted(word):
    if word == ANY_SIGN:
        return None
    return read_state(word)


def read_condition(word):
    if "=" in word:
        return read_amounts(word)
    return read_places(word)


def read_amounts(word):
    parts = word.partition("=")
    return Amounts(read_state(parts[0]), read_numbers(parts[2]))


def read_numbers(signs):
    if len(signs) == 0:
        raise NoRule("a condition on amounts has one number or more")
    numbers = []
    for sign in signs:
        if sign not in AMOUNT_FIGURES:
            raise NoRule("an amount is a figure from 0 to 8")
        if len(numbers) > 0 and int(sign) <= numbers[-1]:
            raise NoRule("each amount is greater than the one ahead of it")
        numbers.append(int(sign))
    return tuple(numbers)


def read_places(word):
    if len(word) != NEIGHBOURS:
        raise NoRule("a condition on places has eight signs")
    return Places(tuple([read_wanted(sign) for sign in word]))
