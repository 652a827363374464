"""Unrest: meetings of all houses that go round for ever and come to no rest."""

from roundowned.checks import check_size, right_row
from roundowned.meetings import met, most_say
from roundowned.orders import check_stand, rows_from, steps
from roundowned.rings import circles_along

MOST_FOR_UNREST = 8


def unrest(web, vote, boards):
    """A row of meetings to some boards, and one of all houses, not without change, back to these; None if none is."""
    check_stand(web, vote, boards)
    check_size(web, MOST_FOR_UNREST)
    rows = rows_from(web, vote, boards)
    for stands in stand_circles(web, vote, list(rows)):
        places = meeting_places(web, vote, stands)
        if all([place is not None for place in places]):
            return (rows[stands[0]], row_around(web, vote, stands[0], places))
    return None


def stand_circles(web, vote, stands):
    """The greatest lists of more than one of all boards that can come, each of which leads to each."""
    numbers = {stand: number for number, stand in enumerate(stands)}
    into = [[numbers[fresh] for _, fresh in steps(web, vote, stand)] for stand in stands]
    return [[stands[number] for number in circle] for circle in circles_along(into)]


def meeting_places(web, vote, stands):
    """For each house the first boards of a circle at which its meeting does not lead out of it, None if none are."""
    places = []
    for house in range(len(web.houses)):
        fits = [stand for stand in stands if met(web, vote, stand, house) in stands]
        places.append(fits[0] if fits else None)
    return places


def row_around(web, vote, start, places):
    """A row of meetings, each house meeting at its place, from some boards of a circle back to these."""
    row = ()
    now = start
    for house, place in enumerate(places):
        row = row + rows_from(web, vote, now)[place] + (house,)
        now = met(web, vote, place, house)
    return row + rows_from(web, vote, now)[start]


def is_unrest(web, vote, boards, thing):
    """Whether a thing is such a pair of rows."""
    check_stand(web, vote, boards)
    if not isinstance(thing, tuple) or len(thing) != 2:
        return False
    many = len(web.houses)
    if not all([isinstance(row, tuple) and right_row(row, many) for row in thing]):
        return False
    first, again = thing
    now = list(boards)
    hold(web, vote, now, first)
    start = list(now)
    changes = hold(web, vote, now, again)
    return changes > 0 and now == start and len(set(again)) == many


def hold(web, vote, now, row):
    """Hold the meetings of a row at a list of boards, and tell how many of them changed these."""
    changes = 0
    for house in row:
        flag = most_say(web.houses[house], vote, now)
        if flag != now[house]:
            changes += 1
        now[house] = flag
    return changes
