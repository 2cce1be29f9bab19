"""One field laid over another one (point 22)."""

from jumpfield.fields import widened_to


# What lives in one of both fields lives in the whole, so the greater one of their levels is the least that has it all.
def laid_over(grove, lower, upper):
    level = max(grove.level_of(lower), grove.level_of(upper))
    return laid(grove, widened_to(grove, lower, level), widened_to(grove, upper, level), {})


def laid(grove, lower, upper, known):
    level = grove.levels[upper]
    bare = grove.bares[level]
    if upper == bare:
        return lower
    if level == 0 or lower == bare or lower == upper:
        return upper
    square = known.get((lower, upper))
    if square is None:
        square = grove.linked(laid_quarters(grove, grove.parts[lower], grove.parts[upper], known))
        known[(lower, upper)] = square
    return square


def laid_quarters(grove, lowers, uppers, known):
    return tuple([laid(grove, lower, upper, known) for lower, upper in zip(lowers, uppers)])
