"""Tables that are the same but for the order of the folk."""

from itertools import permutations

from roundowned.checks import check_folk, check_table, right_order
from roundowned.counting import tables
from roundowned.errors import NoOrder


def renamed(folk, table, order):
    """The table in which the person with the number order[k] is k."""
    check_folk(folk)
    check_table(folk, table)
    if not right_order(order, folk):
        raise NoOrder()
    return in_order(table, order)


def in_order(table, order):
    """The same for a right table and a right order."""
    names = {person: place for place, person in enumerate(order)}
    return tuple(sorted([tuple(sorted([names[person] for person in lot])) for lot in table]))


def same_kind(folk, table, other):
    """The least order by which a table becomes another one, None if there is none."""
    check_folk(folk)
    check_table(folk, table)
    check_table(folk, other)
    for order in permutations(range(folk)):
        if in_order(table, order) == other:
            return order
    return None


def all_orders(folk, table):
    """The list of what a table becomes by all orders."""
    return [in_order(table, order) for order in permutations(range(folk))]


def first_of_kind(folk, table):
    """The least of all tables that a table becomes by some order."""
    check_folk(folk)
    check_table(folk, table)
    return min(all_orders(folk, table))


def kinds(folk, kind):
    """The ascending list of the tables of a kind, "outright" or "round", that are the first of those they become."""
    seen = {}
    found = []
    for table in tables(folk, kind):
        if table not in seen:
            found.append(table)
            for other in all_orders(folk, table):
                seen[other] = True
    return found
