"""Patterns: fields as texts (points 33 and 34)."""

from jumpfield.boxes import filled
from jumpfield.errors import NoNumber, NoPattern
from jumpfield.fields import bare_field
from jumpfield.figures import read_whole
from jumpfield.listing import box_of, cells_of
from jumpfield.runs import BLANK_SIGN, ROW_SIGN, STATE_SIGNS, read_runs, shown_runs

MOST_PLACE = 9999999999999


def read_pattern(grove, text):
    if not isinstance(text, str):
        raise NoPattern("what is no text tells no pattern")
    parts = text.partition(":")
    place = parts[0].partition(",")
    if parts[1] == "" or place[1] == "":
        raise NoPattern("a pattern has its place, a colon, and its runs")
    x = read_place(place[0])
    y = read_place(place[2])
    return field_of_runs(grove, x, y, read_runs(parts[2]))


def read_place(word):
    try:
        number = read_whole(word)
    except NoNumber:
        raise NoPattern("a place is told by two whole numbers")
    if abs(number) > MOST_PLACE:
        raise NoPattern("a place is told by at most thirteen figures each")
    return number


def field_of_runs(grove, x, y, runs):
    field = bare_field(grove)
    right = x
    down = y
    for amount, sign in runs:
        if sign == ROW_SIGN:
            right = x
            down = down + amount
        else:
            # Going is never refused, so where a run puts no cell, nothing is filled.
            if sign != BLANK_SIGN:
                field = filled(grove, field, (right, down, amount, 1), STATE_SIGNS.index(sign))
            right = right + amount
    return field


def shown_pattern(grove, field):
    cells = cells_of(grove, field)
    if len(cells) == 0:
        return "0,0:"
    box = box_of(grove, field)
    left = box[0]
    top = box[1]
    runs = shown_runs(runs_of_cells(cells, left, top))
    return f"{left},{top}:{runs}"


def runs_of_cells(cells, left, top):
    runs = []
    right = left
    down = top
    for x, y, state in cells:
        if y > down:
            runs.append((y - down, ROW_SIGN))
            right = left
            down = y
        if x > right:
            runs.append((x - right, BLANK_SIGN))
        runs.append((1, STATE_SIGNS[state]))
        right = x + 1
    return runs
