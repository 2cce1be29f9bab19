"""Rules: rows of clauses, of which the first one that fits decides (points 6 to 9)."""

from jumpfield.clauses import NEIGHBOURS, read_clause
from jumpfield.errors import NoRule, Restless

CLAUSE_MARK = "; "
WORD_MARK = " "
TURNED_ORDER = (2, 4, 7, 1, 6, 0, 3, 5)
MIRRORED_ORDER = (2, 1, 0, 4, 3, 7, 6, 5)


class Rule:
    def __init__(self, text):
        self.text = text
        self.clauses = tuple([read_clause(part) for part in clause_texts(text)])


def clause_texts(text):
    # Splitting the text without signs would tell one clause without signs, where there is none.
    if text == "":
        return []
    return text.split(CLAUSE_MARK)


def read_rule(text):
    if not isinstance(text, str):
        raise NoRule("what is no text tells no rule")
    rule = Rule(text)
    if becomes(rule, 0, [0] * NEIGHBOURS) != 0:
        raise Restless("by this rule something comes of nothing")
    return rule


def deciding(rule, cell, around):
    for number, clause in enumerate(rule.clauses):
        if clause.fits(cell, around):
            return number
    return None


def becomes(rule, cell, around):
    number = deciding(rule, cell, around)
    if number is None:
        return cell
    return rule.clauses[number].makes


def shown_rule(rule):
    return rule.text


def turned_rule(rule):
    return reordered_rule(rule, TURNED_ORDER)


def mirrored_rule(rule):
    return reordered_rule(rule, MIRRORED_ORDER)


def reordered_rule(rule, order):
    return Rule(CLAUSE_MARK.join([reordered_clause(text, order) for text in clause_texts(rule.text)]))


def reordered_clause(text, order):
    return WORD_MARK.join([reordered_word(word, order) for word in text.split(WORD_MARK)])


# A condition on amounts may have eight signs too, so its `=` tells it from a condition on places.
def reordered_word(word, order):
    if len(word) != NEIGHBOURS or "=" in word:
        return word
    return "".join([word[number] for number in order])
