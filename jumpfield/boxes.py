"""Boxes of a field, filled and cut out (points 13 and 19)."""

from jumpfield.clauses import is_state
from jumpfield.errors import NoBox, NoState, TooFar
from jumpfield.fields import LIMIT, lies_within, reach_of, trimmed, widened_over


def filled(grove, field, box, state):
    check_box(box)
    has_places = box[2] > 0 and box[3] > 0
    if has_places and not lies_within(box, LIMIT):
        raise TooFar("a box is filled in the ground alone")
    if not is_state(state):
        raise NoState("a state is a whole number from 0 to 7")
    if not has_places:
        return field
    wide = widened_over(grove, field, box)
    solid = grove.solid(grove.level_of(wide), state)
    return trimmed(grove, mixed(grove, solid, wide, part_in(grove, wide, box), {}))


def cut_out(grove, field, box):
    check_box(box)
    bare = grove.bares[grove.level_of(field)]
    return trimmed(grove, mixed(grove, field, bare, part_in(grove, field, box), {}))


def check_box(box):
    if box[2] < 0 or box[3] < 0:
        raise NoBox("a box is not less than 0 wide or high")


# The part of a box that lies in a square: a tuple (left, top, right, bottom), told from its upper left cell on.
def part_in(grove, field, box):
    reach = reach_of(grove, field)
    left = box[0] + reach
    top = box[1] + reach
    return clipped(left, top, left + box[2], top + box[3], 2 * reach)


# Parts without places are all told alike, so that what was reckoned for one is known for the others.
def clipped(left, top, right, bottom, size):
    part = (max(left, 0), max(top, 0), min(right, size), min(bottom, size))
    if part[0] >= part[2] or part[1] >= part[3]:
        return (0, 0, 0, 0)
    return part


# The square with what inner has within the part, and what outer has around it.
def mixed(grove, inner, outer, part, known):
    size = 1 << grove.levels[inner]
    if inner == outer or part == (0, 0, size, size):
        return inner
    if part == (0, 0, 0, 0):
        return outer
    key = (inner, outer, part)
    square = known.get(key)
    if square is None:
        square = mixed_quarters(grove, key, size // 2, known)
        known[key] = square
    return square


def mixed_quarters(grove, key, half, known):
    inners = grove.parts[key[0]]
    outers = grove.parts[key[1]]
    part = key[2]
    made = []
    for place in range(4):
        x = half * (place % 2)
        y = half * (place // 2)
        quarter_part = clipped(part[0] - x, part[1] - y, part[2] - x, part[3] - y, half)
        made.append(mixed(grove, inners[place], outers[place], quarter_part, known))
    return grove.linked(tuple(made))
