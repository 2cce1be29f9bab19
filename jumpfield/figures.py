"""Whole numbers, and the texts that tell them (points 2 and 4)."""

from jumpfield.errors import NoNumber

FIGURES = "0123456789"
MOST_FIGURES = 30


def is_whole(thing):
    # Python counts True and False among the ints; here they are truths, no numbers.
    return isinstance(thing, int) and not isinstance(thing, bool)


def read_whole(text):
    if not isinstance(text, str):
        raise NoNumber("what is no text tells no whole number")
    if text == "0":
        return 0
    if not are_figures(without_minus(text)):
        raise NoNumber("no text of a whole number")
    return int(text)


def without_minus(text):
    if text.startswith("-"):
        return text[1:]
    return text


# int alone would also take blanks, line ends, `+`, `_` and a `0` ahead, so each sign is looked at first.
def are_figures(signs):
    if len(signs) < 1 or len(signs) > MOST_FIGURES or signs[0] == "0":
        return False
    return all([sign in FIGURES for sign in signs])
