"""What lives in a field, told as a list of cells or as a box (point 18)."""

from jumpfield.errors import TooMany
from jumpfield.fields import reach_of
from jumpfield.grove import shifted_box

MOST_CELLS = 4096


def by_rows(cell):
    return (cell[1], cell[0])


def cells_of(grove, field):
    if grove.living(field) > MOST_CELLS:
        raise TooMany("more than 4096 cells live")
    reach = reach_of(grove, field)
    cells = []
    gather_cells(grove, field, -reach, -reach, cells)
    return sorted(cells, key=by_rows)


# Here left and top tell where the square's upper left cell lies.
def gather_cells(grove, square, left, top, cells):
    level = grove.levels[square]
    if square == grove.bares[level]:
        return
    if level == 0:
        cells.append((left, top, grove.state_of(square)))
        return
    half = 1 << (level - 1)
    for place, quarter in enumerate(grove.parts[square]):
        gather_cells(grove, quarter, left + half * (place % 2), top + half * (place // 2), cells)


def box_of(grove, field):
    box = grove.span(field)
    if box is None:
        return None
    reach = reach_of(grove, field)
    return shifted_box(box, -reach, -reach)
