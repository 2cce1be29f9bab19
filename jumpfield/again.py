"""What comes again: shapes of fields, and when a shape returns (points 29 to 31)."""

from jumpfield.errors import NoSteps
from jumpfield.figures import is_whole
from jumpfield.leaps import jump
from jumpfield.listing import box_of
from jumpfield.moves import moved_by


def shape_of(grove, field):
    box = box_of(grove, field)
    if box is None:
        return (field, 0, 0)
    shape = moved_by(grove, field, -(box[2] // 2) - box[0], -(box[3] // 2) - box[1])
    return (shape, box[0], box[1])


# What a shape becomes hangs on the shape alone, so the first shape that is there twice tells the least wait and time.
def comes_again(jumps, field, most):
    if not is_whole(most) or most < 0:
        raise NoSteps("steps are a whole number from 0 on")
    seen = {}
    here = field
    for count in range(most + 1):
        if count > 0:
            here = jump(jumps, here, 1)
        found = shape_of(jumps.grove, here)
        earlier = seen.get(found[0])
        if earlier is not None:
            return (earlier[0], count - earlier[0], found[1] - earlier[1], found[2] - earlier[2])
        seen[found[0]] = (count, found[1], found[2])
    return None


def kind_of(found):
    if found is None:
        return "open"
    if found[2] != 0 or found[3] != 0:
        return "gliding"
    if found[1] == 1:
        return "still"
    return "swinging"
