"""Minutes of past votes, and what they tell of an unknown house of a web without rings."""

from roundowned.bits import bits_of_kind, place_of, tables_of
from roundowned.checks import check_folk, right_flags
from roundowned.errors import NoMinutes, NoTable, NoVote
from roundowned.people import all_flags, rest_of

MOST_MINUTES = 60


def check_minutes(folk, minutes):
    """Raise NoFolk or NoMinutes for what is no number of folk, or no minutes of theirs."""
    check_folk(folk)
    if not isinstance(minutes, (list, tuple)) or len(minutes) > MOST_MINUTES:
        raise NoMinutes()
    if not all([right_minute(folk, pair) for pair in minutes]):
        raise NoMinutes()


def right_minute(folk, thing):
    """Whether a thing is a pair of a vote of so many folk and a flag."""
    return isinstance(thing, tuple) and len(thing) == 2 and right_flags(thing[0], folk) and isinstance(thing[1], bool)


def lot_of(vote):
    """The lot of those who say yes."""
    return tuple([person for person, flag in enumerate(vote) if flag])


def mark_of(vote):
    """The bit of the lot of those who say yes."""
    return 1 << place_of(lot_of(vote))


def fitting_bits(folk, minutes):
    """The list of the bits of the outright tables that fit."""
    marks = [(mark_of(vote), flag) for vote, flag in minutes]
    return [bits for bits in bits_of_kind(folk, "outright")
            if all([(bits & mark != 0) == flag for mark, flag in marks])]


def fitting(folk, minutes):
    """The ascending list of the outright tables that fit."""
    check_minutes(folk, minutes)
    return sorted(tables_of(folk, fitting_bits(folk, minutes)))


def told(folk, minutes, vote):
    """The word for a house at a vote: "yes" or "no" by all tables that fit, otherwise "open"; "none" if none fits."""
    check_minutes(folk, minutes)
    if not right_flags(vote, folk):
        raise NoVote()
    rows = fitting_bits(folk, minutes)
    many = many_yes(rows, vote)
    if not rows:
        return "none"
    if many == len(rows):
        return "yes"
    return "open" if many else "no"


def many_yes(rows, vote):
    """By how many of a list of bits a house stands at yes at a vote."""
    mark = mark_of(vote)
    return len([bits for bits in rows if bits & mark])


def clash(folk, minutes):
    """The least pair of places of minutes that are not both true of one table, None if there is none."""
    check_minutes(folk, minutes)
    # Of each lot and its rest one carries, so each of the minutes tells of a lot that does;
    # and lots that carry have somebody in common, each one with itself, too.
    lots = [carrying_lot(folk, vote, flag) for vote, flag in minutes]
    for first, lot in enumerate(lots):
        for second in range(first, len(lots)):
            if not any([person in lots[second] for person in lot]):
                return (first, second)
    return None


def carrying_lot(folk, vote, flag):
    """The lot that carries a house that stands at a flag at a vote: those who say so."""
    return lot_of(vote) if flag else rest_of(folk, lot_of(vote))


def best_vote(folk, minutes):
    """The least vote of those that leave, whatever the house then says, the fewest tables at most."""
    check_minutes(folk, minutes)
    rows = fitting_bits(folk, minutes)
    if not rows:
        raise NoTable()
    return min([(most_fitting(rows, vote), vote) for vote in all_flags(folk)])[1]


def most_fitting(rows, vote):
    """The greater of the numbers of a list of bits by which a house stands at yes, and at no, at a vote."""
    many = many_yes(rows, vote)
    return max(many, len(rows) - many)
