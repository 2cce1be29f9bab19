"""Fields moved over the ground (point 21)."""

from jumpfield.errors import TooFar
from jumpfield.fields import LIMIT, lies_within, reach_of, trimmed, widened_over
from jumpfield.grove import shifted_box
from jumpfield.listing import box_of


def moved_by(grove, field, dx, dy):
    box = box_of(grove, field)
    if box is None:
        return field
    target = shifted_box(box, dx, dy)
    if not lies_within(target, LIMIT):
        raise TooFar("a living cell would leave the ground")
    wide = widened_over(grove, field, target)
    size = 2 * reach_of(grove, wide)
    bare = grove.bares[grove.level_of(wide)]
    # The field lies in one of four squares beside one another; what is at the offset is what comes to the middle.
    four = [bare, bare, bare, bare]
    four[(1 if dx > 0 else 0) + (2 if dy > 0 else 0)] = wide
    return trimmed(grove, seen_at(grove, tuple(four), -dx % size, -dy % size, {}))


# Of four squares of one level, as they lie beside one another, the square of this level that begins at an offset.
# The offset hangs on the level alone within one move, so the four squares are all that is to be remembered.
def seen_at(grove, four, right, down, known):
    if right == 0 and down == 0:
        return four[0]
    bare = grove.bares[grove.levels[four[0]]]
    seen = without_unseen(four, right, down, bare)
    if seen == (bare, bare, bare, bare):
        return bare
    square = known.get(seen)
    if square is None:
        square = seen_quarters(grove, seen, right, down, known)
        known[seen] = square
    return square


# What lies beyond the offset's own row or column is not to be gone through.
def without_unseen(four, right, down, bare):
    if right == 0:
        return (four[0], bare, four[2], bare)
    if down == 0:
        return (four[0], four[1], bare, bare)
    return four


def seen_quarters(grove, four, right, down, known):
    half = 1 << (grove.levels[four[0]] - 1)
    rows = rows_of_quarters(grove, four)
    made = []
    for place in range(4):
        column = right // half + place % 2
        row = down // half + place // 2
        inner = (rows[row][column], rows[row][column + 1], rows[row + 1][column], rows[row + 1][column + 1])
        made.append(seen_at(grove, inner, right % half, down % half, known))
    return grove.linked(tuple(made))


def rows_of_quarters(grove, four):
    a = grove.parts[four[0]]
    b = grove.parts[four[1]]
    c = grove.parts[four[2]]
    d = grove.parts[four[3]]
    return [
        (a[0], a[1], b[0], b[1]),
        (a[2], a[3], b[2], b[3]),
        (c[0], c[1], d[0], d[1]),
        (c[2], c[3], d[2], d[3]),
    ]
