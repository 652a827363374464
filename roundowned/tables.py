"""Tables: the least lots that carry."""

from roundowned.checks import check_folk, check_table, right_lot, right_table
from roundowned.errors import NoLot
from roundowned.lots import least_lots
from roundowned.people import all_lots, has_part, rest_of


def is_table(folk, thing):
    """Whether a thing is an ascending tuple of lots of so many folk, none of them a part of another one."""
    check_folk(folk)
    return right_table(thing, folk)


def table(web, house):
    """The table of a house: the tuple of its least lots."""
    return tuple(least_lots(web, house))


def carries(folk, table, lot):
    """Whether a lot carries by a table: one of the least lots is a part of it."""
    check_folk(folk)
    check_table(folk, table)
    if not right_lot(lot, folk):
        raise NoLot()
    return has_part(lot, table)


def kind(folk, table):
    """The kind of a table: "outright", "round" without being outright, or "none"."""
    if apart(folk, table) is not None:
        return "none"
    return "outright" if open_lot(folk, table) is None else "round"


def apart(folk, table):
    """The least pair of least lots, the first less, or equal, that have nobody in common, None if there is none."""
    check_folk(folk)
    check_table(folk, table)
    for one in table:
        for other in table:
            if one <= other and not any([person in other for person in one]):
                return (one, other)
    return None


def open_lot(folk, table):
    """The least lot such that neither it nor its rest carries, None if there is none."""
    check_folk(folk)
    check_table(folk, table)
    for lot in all_lots(folk):
        if not has_part(lot, table) and not has_part(rest_of(folk, lot), table):
            return lot
    return None
