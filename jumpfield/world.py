"""A world of fields by their names, told rows (point 35)."""

from jumpfield.again import comes_again, kind_of
from jumpfield.boxes import cut_out, filled
from jumpfield.errors import NoName, NoRow
from jumpfield.fields import cell_at, planted
from jumpfield.figures import read_whole
from jumpfield.grove import Grove
from jumpfield.jumps import Jumps
from jumpfield.layers import laid_over
from jumpfield.leaps import jump
from jumpfield.moves import moved_by
from jumpfield.patterns import read_pattern, shown_pattern
from jumpfield.rules import read_rule
from jumpfield.turns import mirror, turn_left

LETTERS = "abcdefghijklmnopqrstuvwxyz"
MOST_LETTERS = 8
DONE = "ok"


# Each deed takes the world and what was read of the words behind the first one, fields by their names.
def do_rule(world, words):
    world.jumps.change(read_rule(words[0]))
    return DONE


def do_field(world, words):
    return world.keep(words[0], read_pattern(world.grove, words[1]))


def do_copy(world, words):
    return world.keep(words[0], world.fields[words[1]])


def do_lay(world, words):
    return world.keep(words[0], laid_over(world.grove, world.fields[words[1]], world.fields[words[2]]))


def do_drop(world, words):
    world.fields.pop(words[0])
    return DONE


def do_put(world, words):
    return world.keep(words[0], planted(world.grove, world.fields[words[0]], words[1], words[2], words[3]))


def do_fill(world, words):
    box = (words[1], words[2], words[3], words[4])
    return world.keep(words[0], filled(world.grove, world.fields[words[0]], box, words[5]))


def do_cut(world, words):
    box = (words[1], words[2], words[3], words[4])
    return world.keep(words[0], cut_out(world.grove, world.fields[words[0]], box))


def do_turn(world, words):
    return world.keep(words[0], turn_left(world.grove, world.fields[words[0]]))


def do_mirror(world, words):
    return world.keep(words[0], mirror(world.grove, world.fields[words[0]]))


def do_move(world, words):
    return world.keep(words[0], moved_by(world.grove, world.fields[words[0]], words[1], words[2]))


def do_jump(world, words):
    return world.keep(words[0], jump(world.jumps, world.fields[words[0]], words[1]))


def do_show(world, words):
    return shown_pattern(world.grove, world.fields[words[0]])


def do_count(world, words):
    return str(world.grove.living(world.fields[words[0]]))


def do_cell(world, words):
    return str(cell_at(world.grove, world.fields[words[0]], words[1], words[2]))


def do_same(world, words):
    return "yes" if world.fields[words[0]] == world.fields[words[1]] else "no"


def do_again(world, words):
    found = comes_again(world.jumps, world.fields[words[0]], words[1])
    if found is None:
        return "none"
    numbers = " ".join([str(number) for number in found])
    kind = kind_of(found)
    return f"{numbers} {kind}"


# By the first word of a row: what the words behind it are, and the deed. A word is the name of one field that is there,
# a new name, a whole number, or a text that is all that follows.
ROWS = {
    "rule": ("text", do_rule),
    "field": ("new text", do_field),
    "copy": ("new one", do_copy),
    "lay": ("new one one", do_lay),
    "drop": ("one", do_drop),
    "put": ("one number number number", do_put),
    "fill": ("one number number number number number", do_fill),
    "cut": ("one number number number number", do_cut),
    "turn": ("one", do_turn),
    "mirror": ("one", do_mirror),
    "move": ("one number number", do_move),
    "jump": ("one number", do_jump),
    "show": ("one", do_show),
    "count": ("one", do_count),
    "cell": ("one number number", do_cell),
    "same": ("one one", do_same),
    "again": ("one number", do_again),
}


def is_name(word):
    return 1 <= len(word) <= MOST_LETTERS and all([sign in LETTERS for sign in word])


# The words behind the first one; a text takes all that is left, blanks too.
def split_row(row, kinds):
    if kinds[-1] == "text":
        words = row.split(" ", len(kinds))
    else:
        words = row.split(" ")
    if len(words) != len(kinds) + 1:
        raise NoRow("another number of words than this row has")
    return words[1:]


class World:
    def __init__(self):
        self.grove = Grove()
        self.jumps = Jumps(self.grove, read_rule(""))
        self.fields = {}

    def say(self, row):
        if not isinstance(row, str):
            raise NoRow("what is no text is no row")
        first = row.partition(" ")[0]
        if first not in ROWS:
            raise NoRow("no row begins with this word")
        kinds = ROWS[first][0].split(" ")
        deed = ROWS[first][1]
        return deed(self, [self.read_word(kind, word) for kind, word in zip(kinds, split_row(row, kinds))])

    def read_word(self, kind, word):
        if kind == "number":
            return read_whole(word)
        if kind == "text":
            return word
        if not is_name(word):
            raise NoName("a name is one to eight letters from a to z")
        if kind == "one" and word not in self.fields:
            raise NoName("no field stands by this name")
        return word

    def keep(self, name, field):
        self.fields[name] = field
        return DONE
