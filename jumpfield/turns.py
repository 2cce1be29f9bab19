"""Fields turned to the left and mirrored (point 20)."""

# By the place of a new quarter, the place of the old one that comes there.
LEFT_ORDER = (1, 3, 0, 2)
MIRROR_ORDER = (1, 0, 3, 2)


def turn_left(grove, field):
    return rearranged(grove, field, LEFT_ORDER, {})


def mirror(grove, field):
    return rearranged(grove, field, MIRROR_ORDER, {})


def rearranged(grove, square, order, known):
    level = grove.levels[square]
    if level == 0 or square == grove.bares[level]:
        return square
    made = known.get(square)
    if made is None:
        old = grove.parts[square]
        made = grove.linked(tuple([rearranged(grove, old[place], order, known) for place in order]))
        known[square] = made
    return made
