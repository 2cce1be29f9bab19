"""Boxes of a field, filled and cut out (points 13 and 19)."""

from jumpfield.clauses import is_state
from jumpfield.errors import NoBox, NoState, TooFar
from jumpfield.fields import LIMIT, lies_within, reach_of, trimmed, widened_over


def filled(grove, field, box, state):
    check_box(box)
    has_places = box[2] > 0 and box[3] > 0
    if has_places and not lies_within(box, LIMIT):
        raise TooFar("a box is filled in the ground alone")
    if not is_state(state):
        raise NoState("a state is a whole number from 0 to 7")
    if not has_places:
        return field
    wide = widened_over(grove, field, box)
    solid = grove.solid(grove.level_of(wide), state)
    return trimmed(grove, mixed(grove, solid, wide, part_in(grove, wide, box), {}))


def cut_out(grove, field, box):
    check_box(box)
    bare = grove.bares[grove.level_of(field)]
    return trimmed(grove, mixed(grove, field, bare, part_in(grove, field, box), {}))


def check_box(box):
    if box[2] < 0 or box[3] < 0:
        raise NoBox("a box is not less than 0 wide or high")


# The part of a box that lies in a square: a tuple (left, top, right, bottom), told from its upper left cell on.
def part_in(grove, field, box):
    reach = reach_of(grove, field)
    left = box[0] + reach
    top = box[1] + reach
    size = 2 * reach
    return (max(left, 0), max(top, 0), min(left + box[2], size), min(top + box[3], size))


# The square with what inner has within the part, and what outer has around it.
def mixed(grove, inner, outer, part, known):
    if part[0] >= part[2] or part[1] >= part[3]:
        return outer
    size = 1 << grove.levels[inner]
    if inner == outer or part == (0, 0, size, size):
        return inner
    key = (inner, outer, part)
    square = known.get(key)
    if square is None:
        square = mixed_quarters(grove, key, size // 2, known)
        known[key] = square
    return square


def mixed_quarters(grove, key, half, known):
    inners = grove.parts[key[0]]
    outers = grove.parts[key[1]]
    part = key[2]
    columns = split_stretch(part[0], part[2], half)
    rows = split_stretch(part[1], part[3], half)
    made = []
    for place in range(4):
        column = columns[place % 2]
        row = rows[place // 2]
        quarter_part = (column[0], row[0], column[1], row[1])
        made.append(mixed(grove, inners[place], outers[place], quarter_part, known))
    return grove.linked(tuple(made))


# What a stretch has in either half, each told from where that half begins; one without places ends before it begins.
def split_stretch(start, stop, half):
    return ((start, min(stop, half)), (max(start - half, 0), stop - half))
