"""Plain steps of a list of living cells (point 23)."""

from jumpfield.clauses import places_around
from jumpfield.listing import by_rows
from jumpfield.rules import becomes


def stepped(rule, cells):
    states = {}
    for cell in cells:
        states[(cell[0], cell[1])] = cell[2]
    made = []
    known = {}
    for place in places_about(states):
        state = state_after(rule, states, place, known)
        if state != 0:
            made.append((place[0], place[1], state))
    return sorted(made, key=by_rows)


# Nothing comes of nothing, so only a living cell or a neighbour of one can live a step later.
def places_about(states):
    places = {}
    for place in states:
        places[place] = True
        for neighbour in places_around(place[0], place[1]):
            places[neighbour] = True
    return list(places)


# The rule is asked once for all cells of one state in the same surroundings.
def state_after(rule, states, place, known):
    cell = states.get(place, 0)
    around = [states.get(neighbour, 0) for neighbour in places_around(place[0], place[1])]
    key = (cell, tuple(around))
    state = known.get(key)
    if state is None:
        state = becomes(rule, cell, around)
        known[key] = state
    return state
