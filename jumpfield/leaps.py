"""Fields jumped over any number of steps, and the roads of such jumps (points 27 and 28)."""

from jumpfield.errors import NoSteps, TooFar
from jumpfield.fields import LIMIT, bare_field, lies_within, reach_of, trimmed, widened_to
from jumpfield.figures import is_whole
from jumpfield.listing import box_of


def jump(jumps, field, n):
    tuples = road(jumps, field, n)
    if len(tuples) == 0:
        return field
    return trimmed(jumps.grove, tuples[-1][2])


def road(jumps, field, n):
    grove = jumps.grove
    check_leap(grove, field, n)
    told = []
    here = field
    rest = n
    e = 0
    while rest > 0 and here != bare_field(grove):
        if rest % 2 == 1:
            square = widened_to(grove, here, level_for(grove, here, e))
            result = jumps.after(square, e)
            told.append((square, e, result))
            here = trimmed(grove, result)
        rest = rest // 2
        e = e + 1
    return told


def check_leap(grove, field, n):
    if not is_whole(n) or n < 0:
        raise NoSteps("steps are a whole number from 0 on")
    box = box_of(grove, field)
    if box is not None and not lies_within((box[0] - n, box[1] - n, box[2] + 2 * n, box[3] + 2 * n), LIMIT):
        raise TooFar("in so many steps the field could leave the ground")


# The least level of which the middle has all that can live behind 2 ** e steps.
def level_for(grove, field, e):
    reach = reach_of(grove, field) + (1 << e)
    level = 2
    while 1 << (level - 2) < reach:
        level = level + 1
    return level
