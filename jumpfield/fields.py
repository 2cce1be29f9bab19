"""Fields: squares about the middle of the plane, of the least level that has all living cells (points 14 to 17)."""

from jumpfield.clauses import is_state
from jumpfield.errors import NoLevel, NoState, TooFar
from jumpfield.grove import TOP_LEVEL

LIMIT = 1099511627776
LEAST_LEVEL = 1


def lies_within(box, limit):
    return (
        -limit <= box[0]
        and -limit <= box[1]
        and box[0] + box[2] <= limit
        and box[1] + box[3] <= limit
    )


# How far a square about the middle reaches from there to each side.
def reach_of(grove, field):
    return 1 << (grove.level_of(field) - 1)


def bare_field(grove):
    return grove.bares[LEAST_LEVEL]


def widened(grove, square):
    level = grove.level_of(square)
    if level < LEAST_LEVEL or level == TOP_LEVEL:
        raise NoLevel("a square of a level from 1 to 47 is widened")
    parts = grove.parts[square]
    bare = grove.bares[level - 1]
    return grove.linked(
        (
            grove.linked((bare, bare, bare, parts[0])),
            grove.linked((bare, bare, parts[1], bare)),
            grove.linked((bare, parts[2], bare, bare)),
            grove.linked((parts[3], bare, bare, bare)),
        )
    )


def trimmed(grove, square):
    if grove.level_of(square) < LEAST_LEVEL:
        raise NoLevel("a square of a level from 1 on is trimmed")
    kept = square
    while grove.levels[kept] > LEAST_LEVEL and is_bare_around(grove, kept):
        kept = middle_of(grove, kept)
    return kept


def middle_of(grove, square):
    inner = [grove.parts[quarter] for quarter in grove.parts[square]]
    return grove.linked((inner[0][3], inner[1][2], inner[2][1], inner[3][0]))


def is_bare_around(grove, square):
    bare = grove.bares[grove.levels[square] - 2]
    for place, quarter in enumerate(grove.parts[square]):
        # Of a quarter, the part that meets the middle lies across from the place of the quarter itself.
        for part_place, part in enumerate(grove.parts[quarter]):
            if part != bare and part_place != 3 - place:
                return False
    return True


def widened_over(grove, field, box):
    wide = field
    while not lies_within(box, reach_of(grove, wide)):
        wide = widened(grove, wide)
    return wide


def widened_to(grove, field, level):
    wide = field
    while grove.level_of(wide) < level:
        wide = widened(grove, wide)
    return wide


def cell_at(grove, field, x, y):
    half = reach_of(grove, field)
    if not lies_within((x, y, 1, 1), half):
        return 0
    square = field
    right = x + half
    down = y + half
    while half > 0:
        square = grove.parts[square][right // half + 2 * (down // half)]
        right = right % half
        down = down % half
        half = half // 2
    return grove.state_of(square)


def planted(grove, field, x, y, state):
    place = (x, y, 1, 1)
    if not lies_within(place, LIMIT):
        raise TooFar("a cell is planted in the ground alone")
    if not is_state(state):
        raise NoState("a state is a whole number from 0 to 7")
    wide = widened_over(grove, field, place)
    half = reach_of(grove, wide)
    return trimmed(grove, replaced(grove, wide, x + half, y + half, state))


# Here x and y are told from the square's upper left cell.
def replaced(grove, square, x, y, state):
    level = grove.levels[square]
    if level == 0:
        return grove.leaf(state)
    half = 1 << (level - 1)
    parts = list(grove.parts[square])
    place = x // half + 2 * (y // half)
    parts[place] = replaced(grove, parts[place], x % half, y % half, state)
    return grove.linked(tuple(parts))


def field_of(grove, cells):
    field = bare_field(grove)
    for cell in cells:
        field = planted(grove, field, cell[0], cell[1], cell[2])
    return field
