"""The grove: squares made of quarters, of which alike ones are one (points 10 to 13)."""

from jumpfield.clauses import STATES, is_state
from jumpfield.errors import NoLevel, NoSquare, NoState
from jumpfield.figures import is_whole

TOP_LEVEL = 48


def shifted_box(box, dx, dy):
    return (box[0] + dx, box[1] + dy, box[2], box[3])


def least_box(boxes):
    left = min([box[0] for box in boxes])
    top = min([box[1] for box in boxes])
    right = max([box[0] + box[2] for box in boxes])
    bottom = max([box[1] + box[3] for box in boxes])
    return (left, top, right - left, bottom - top)


class Grove:
    # By a square's number, levels has its level and parts its quarters; bares has, by a level, the number of the
    # square of this level in which no cell lives. The leaves come first, so each has its own state as its number.
    def __init__(self):
        self.levels = []
        self.parts = []
        self.numbers = {}
        self.bares = [0]
        self.amounts = {}
        self.boxes = {}
        for state in range(STATES):
            self.kept((state,), 0)
            self.amounts[state] = min(state, 1)
        for level in range(1, TOP_LEVEL + 1):
            bare = self.bares[-1]
            self.bares.append(self.kept((bare, bare, bare, bare), level))

    def kept(self, parts, level):
        number = len(self.levels)
        self.numbers[parts] = number
        self.levels.append(level)
        self.parts.append(parts)
        return number

    # For the package's own use, where parts is known to be a tuple of four squares of one level below the highest.
    def linked(self, parts):
        number = self.numbers.get(parts)
        if number is None:
            return self.kept(parts, self.levels[parts[0]] + 1)
        return number

    # A number that the grove has not told yet is refused too, rather than answered by chance.
    def check_square(self, square):
        if not is_whole(square) or not 0 <= square < len(self.levels):
            raise NoSquare("no number of a square of this grove")

    def leaf(self, state):
        if not is_state(state):
            raise NoState("a state is a whole number from 0 to 7")
        return state

    def joined(self, a, b, c, d):
        for square in (a, b, c, d):
            self.check_square(square)
        level = self.levels[a]
        if level == TOP_LEVEL or any([self.levels[square] != level for square in (b, c, d)]):
            raise NoLevel("four squares of one level from 0 to 47 are joined")
        return self.linked((a, b, c, d))

    def solid(self, level, state):
        if not is_whole(level) or not 0 <= level <= TOP_LEVEL:
            raise NoLevel("a level is a whole number from 0 to 48")
        square = self.leaf(state)
        for below in range(level):
            square = self.linked((square, square, square, square))
        return square

    def level_of(self, square):
        self.check_square(square)
        return self.levels[square]

    def quarters(self, square):
        if self.level_of(square) == 0:
            raise NoLevel("a square of level 0 has no quarters")
        return self.parts[square]

    def state_of(self, square):
        if self.level_of(square) != 0:
            raise NoLevel("only a square of level 0 has a state")
        return square

    def living(self, square):
        self.check_square(square)
        return self.counted(square)

    def counted(self, square):
        amount = self.amounts.get(square)
        if amount is None:
            amount = sum([self.counted(quarter) for quarter in self.parts[square]])
            self.amounts[square] = amount
        return amount

    def span(self, square):
        self.check_square(square)
        return self.boxed(square)

    def boxed(self, square):
        if square == self.bares[self.levels[square]]:
            return None
        box = self.boxes.get(square)
        if box is None:
            box = self.measured(square)
            self.boxes[square] = box
        return box

    def measured(self, square):
        level = self.levels[square]
        if level == 0:
            return (0, 0, 1, 1)
        half = 1 << (level - 1)
        boxes = []
        for place, quarter in enumerate(self.parts[square]):
            box = self.boxed(quarter)
            if box is not None:
                boxes.append(shifted_box(box, half * (place % 2), half * (place // 2)))
        return least_box(boxes)
