"""Runs: amounts and signs, one behind the other (point 32)."""

from jumpfield.errors import NoPattern
from jumpfield.figures import FIGURES

BLANK_SIGN = "."
ROW_SIGN = "/"
# A letter's place here is its state.
STATE_SIGNS = ".ABCDEFG"
RUN_SIGNS = ".ABCDEFG/"
MOST_AMOUNT_FIGURES = 13


def read_runs(text):
    if not isinstance(text, str):
        raise NoPattern("what is no text tells no runs")
    runs = []
    figures = ""
    for sign in text:
        if sign in FIGURES:
            figures = figures + sign
        elif sign in RUN_SIGNS:
            runs.append((read_amount(figures), sign))
            figures = ""
        else:
            raise NoPattern("a sign of a run is a point, a letter from A to G, or a stroke")
    if figures != "":
        raise NoPattern("an amount stands ahead of a sign")
    return runs


def read_amount(figures):
    if figures == "":
        return 1
    if len(figures) > MOST_AMOUNT_FIGURES or figures[0] == "0" or figures == "1":
        raise NoPattern("an amount has one to thirteen figures, the first no 0, and is not 1")
    return int(figures)


def shown_runs(runs):
    return "".join([shown_run(run[0], run[1]) for run in put_together(runs)])


def put_together(runs):
    merged = []
    for amount, sign in runs:
        if len(merged) > 0 and merged[-1][1] == sign:
            merged[-1] = (merged[-1][0] + amount, sign)
        else:
            merged.append((amount, sign))
    return merged


def shown_run(amount, sign):
    if amount == 1:
        return sign
    return f"{amount}{sign}"
