"""Webs made for tables."""

from roundowned.bits import bits_of, bits_of_one, flipped, is_outright, is_round, place_of, set_in_bits, wider_bits
from roundowned.checks import check_folk, check_table, right_table
from roundowned.errors import NoHouse, NoMatch, NoTables, TooMany
from roundowned.lots import carriers
from roundowned.people import all_lots, has_part
from roundowned.webs import Web, web_of_any_size

MOST_UNLIKE = 8
MOST_TABLES = 6
MOST_FOR_FEWEST = 3


def tripled(web):
    """A web of houses of three shares, the first of which have the same tables as the houses of a web."""
    if any([len(set(shares)) > MOST_UNLIKE for shares in web.houses]):
        raise TooMany(MOST_UNLIKE)
    houses = list(web.houses)
    for house, shares in enumerate(web.houses):
        holders = sorted(set(shares))
        houses[house] = shares_for(len(holders), bits_of_most(shares, holders), names_of(holders), houses)
    return web_of_any_size(web.folk, tuple(houses))


def bits_of_most(shares, holders):
    """The bits of the lots of holders, taken for folk, that have more than half of some shares."""
    counts = [shares.count(holder) for holder in holders]
    return sum([1 << place_of(lot) for lot in all_lots(len(holders))
                if 2 * sum([counts[number] for number in lot]) > len(shares)])


def names_of(holders):
    """The dict from the bits of each one of some holders, taken for folk, to this holder."""
    return {bits_of_one(len(holders), number): holder for number, holder in enumerate(holders)}


def shares_for(folk, bits, names, houses):
    """Three shares that are had by most lots just as outright bits tell; what houses they need is founded."""
    if bits in names:
        return (names[bits],) * 3
    return tuple(sorted([holder_for(folk, third, names, houses) for third in thirds(folk, bits)]))


def holder_for(folk, bits, names, houses):
    """The holder named for outright bits: one of those there are, or a house that is founded."""
    if bits not in names:
        shares = shares_for(folk, bits, names, houses)
        names[bits] = ("h", len(houses))
        houses.append(shares)
    return names[bits]


def thirds(folk, bits):
    """Three outright bits, each with one person less who makes a difference, by most of which the same lots carry.

    Each of them has one of three folk say what another one says. Two of the three say the same anyway, so one of the
    bits changes nothing. Of the other two, one has all three say so, and one has two of them say what the odd one says:
    as nobody who says yes too does harm, what is unchanged stands between these.
    """
    one, other, last = [person for person in range(folk) if flipped(folk, bits, person) != bits][:3]
    return [set_in_bits(folk, bits, person, bits_of_one(folk, instead))
            for person, instead in [(one, other), (other, last), (last, one)]]


def made(folk, table):
    """A web of houses of three shares, the last of which has a round table, ringless if this is outright."""
    check_folk(folk)
    check_table(folk, table)
    return web_for(folk, [table])


def made_all(folk, tables):
    """A web of houses of three shares, the last of which have some round tables, ringless if all are outright."""
    check_folk(folk)
    if not right_tables(folk, tables):
        raise NoTables()
    return web_for(folk, tables)


def right_tables(folk, things):
    """Whether a thing is a list or tuple of tables, not too many."""
    if not isinstance(things, (list, tuple)) or not 1 <= len(things) <= MOST_TABLES:
        return False
    return all([right_table(thing, folk) for thing in things])


def web_for(folk, wanted):
    """The web for right tables, None if one is not round."""
    rows = [bits_of(folk, table) for table in wanted]
    if not all([is_round(folk, bits) for bits in rows]):
        return None
    # By the eighth fact: a round table is an outright one with one person more, who never says yes.
    # A house that just itself holds is never carried, and stands for this person.
    silent = ("h", 0)
    houses = [] if all([is_outright(folk, bits) for bits in rows]) else [(silent, silent, silent)]
    names = names_of([("f", person) for person in range(folk)] + [silent])
    last = [shares_for(folk + 1, wider_bits(folk, bits), names, houses) for bits in rows]
    return web_of_any_size(folk, tuple(houses + last))


def is_made(folk, table, thing):
    """Whether a thing is a web for so many folk the last house of which has a table."""
    check_folk(folk)
    check_table(folk, table)
    if not isinstance(thing, Web) or thing.folk != folk or len(thing.houses) == 0:
        return False
    return refuted(folk, table, thing) is None


def refuted(folk, table, web):
    """The least lot that carries either by a table or the last house of a web, not both, None if there is none."""
    check_folk(folk)
    check_table(folk, table)
    if web.folk != folk:
        raise NoMatch()
    if len(web.houses) == 0:
        raise NoHouse()
    flags = carriers(web, len(web.houses) - 1)
    for lot in flags:
        if flags[lot] != has_part(lot, table):
            return lot
    return None


def fewest_houses(folk, table):
    """The least number of houses of three shares, 1 or 2, the last of which has a table, None if two are too few."""
    check_folk(folk)
    check_table(folk, table)
    if folk > MOST_FOR_FEWEST:
        raise TooMany(MOST_FOR_FEWEST)
    for many in (1, 2):
        for houses in three_share_houses(folk, many):
            if is_made(folk, table, web_of_any_size(folk, houses)):
                return many
    return None


def three_share_houses(folk, many):
    """The list of the houses of all webs of so many houses of three shares."""
    holders = [("f", person) for person in range(folk)] + [("h", house) for house in range(many)]
    threes = [(one, other, last) for one in holders for other in holders for last in holders if one <= other <= last]
    rows = [()]
    for _ in range(many):
        rows = [row + (three,) for row in rows for three in threes]
    return rows
