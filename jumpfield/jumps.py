"""Jumps of squares over time, remembered, and their reasons (points 24 to 26)."""

from jumpfield.errors import NoLevel, NoSteps
from jumpfield.figures import is_whole
from jumpfield.grove import TOP_LEVEL
from jumpfield.rules import becomes, shown_rule

LEAST_JUMPED = 2


# Of the sixteen quarters of a square's quarters, each four neighbouring ones as a square: three rows of three.
def nine_parts(grove, square):
    parts = grove.parts[square]
    a = grove.parts[parts[0]]
    b = grove.parts[parts[1]]
    c = grove.parts[parts[2]]
    d = grove.parts[parts[3]]
    return [
        parts[0],
        grove.linked((a[1], b[0], a[3], b[2])),
        parts[1],
        grove.linked((a[2], a[3], c[0], c[1])),
        grove.linked((a[3], b[2], c[1], d[0])),
        grove.linked((b[2], b[3], d[0], d[1])),
        parts[2],
        grove.linked((c[1], d[0], c[3], d[2])),
        parts[3],
    ]


# Of nine squares in three rows of three, each four neighbouring ones: two rows of two.
def fours_of(nine):
    return [
        (nine[0], nine[1], nine[3], nine[4]),
        (nine[1], nine[2], nine[4], nine[5]),
        (nine[3], nine[4], nine[6], nine[7]),
        (nine[4], nine[5], nine[7], nine[8]),
    ]


def met_in_the_middle(grove, four):
    parts = grove.parts
    return grove.linked((parts[four[0]][3], parts[four[1]][2], parts[four[2]][1], parts[four[3]][0]))


class Jumps:
    def __init__(self, grove, rule):
        self.grove = grove
        self.memories = {}
        self.change(rule)

    # What was reckoned by a rule stays true of it, so each rule has a memory of its own, found by the rule's text.
    def change(self, rule):
        text = shown_rule(rule)
        if text not in self.memories:
            self.memories[text] = ([{} for e in range(TOP_LEVEL - 1)], {})
        self.rule = rule
        self.known_squares = self.memories[text][0]
        self.known_cells = self.memories[text][1]

    def after(self, square, e):
        self.check_jump(square, e)
        return self.reckoned(square, e)

    def check_jump(self, square, e):
        level = self.grove.level_of(square)
        if level < LEAST_JUMPED:
            raise NoLevel("a square of a level from 2 on is jumped")
        if not is_whole(e) or not 0 <= e <= level - LEAST_JUMPED:
            raise NoSteps("the steps of a jump hang on the level of its square")

    def reckoned(self, square, e):
        result = self.known_squares[e].get(square)
        if result is None:
            result = self.fresh(square, e)
            self.known_squares[e][square] = result
        return result

    def fresh(self, square, e):
        grove = self.grove
        level = grove.levels[square]
        if square == grove.bares[level]:
            return grove.bares[level - 1]
        if level == LEAST_JUMPED:
            return self.middle_after(square)
        if e < level - LEAST_JUMPED:
            nine = [self.reckoned(part, e) for part in nine_parts(grove, square)]
            return grove.linked(tuple([met_in_the_middle(grove, four) for four in fours_of(nine)]))
        return grove.linked(tuple([self.reckoned(four, e - 1) for four in self.four_halfway(square, e)]))

    # Where the jump is the longest that the square bears, half of it is made first: four squares are left to jump.
    def four_halfway(self, square, e):
        nine = [self.reckoned(part, e - 1) for part in nine_parts(self.grove, square)]
        return [self.grove.linked(four) for four in fours_of(nine)]

    def middle_after(self, square):
        parts = self.grove.parts[square]
        a = self.grove.parts[parts[0]]
        b = self.grove.parts[parts[1]]
        c = self.grove.parts[parts[2]]
        d = self.grove.parts[parts[3]]
        return self.grove.linked(
            (
                self.cell_after((a[3], a[0], a[1], b[0], a[2], b[2], c[0], c[1], d[0])),
                self.cell_after((b[2], a[1], b[0], b[1], a[3], b[3], c[1], d[0], d[1])),
                self.cell_after((c[1], a[2], a[3], b[2], c[0], d[0], c[2], c[3], d[2])),
                self.cell_after((d[0], a[3], b[2], b[3], c[1], d[1], c[3], d[2], d[3])),
            )
        )

    # Nine squares of level 0: the cell, then its surroundings.
    def cell_after(self, leaves):
        leaf = self.known_cells.get(leaves)
        if leaf is None:
            states = [self.grove.state_of(one) for one in leaves]
            leaf = self.grove.leaf(becomes(self.rule, states[0], states[1:]))
            self.known_cells[leaves] = leaf
        return leaf

    def reasons(self, square, e):
        self.check_jump(square, e)
        told = []
        self.gather_reasons(square, e, {}, told)
        return told

    def gather_reasons(self, square, e, seen, told):
        seen[(square, e)] = True
        for below in self.rests_on(square, e):
            if below not in seen:
                self.gather_reasons(below[0], below[1], seen, told)
        told.append((square, e, self.reckoned(square, e)))

    def rests_on(self, square, e):
        level = self.grove.levels[square]
        if level == LEAST_JUMPED:
            return []
        parts = nine_parts(self.grove, square)
        if e < level - LEAST_JUMPED:
            return [(part, e) for part in parts]
        return [(part, e - 1) for part in parts + self.four_halfway(square, e)]
