"""All tables of a kind, in order, and what leads from those of some folk to those of one person more."""

from roundowned.bits import bits_of, bits_of_kind, is_of_kind, table_of, tables_of, wider_bits
from roundowned.checks import MOST_FOLK, check_folk, number_in, right_table
from roundowned.errors import NoFolk, NoKind, NoNumber, NoTable, TooMany

MOST_FOR_ROUND = 5


def check_kind(folk, kind):
    """Raise NoFolk or NoKind for what is none, TooMany for round tables of too many folk."""
    check_folk(folk)
    if not isinstance(kind, str) or kind not in ("outright", "round"):
        raise NoKind()
    if kind == "round":
        check_round_folk(folk)


def check_round_folk(folk):
    """Raise TooMany for more folk than those whose round tables are told."""
    if folk > MOST_FOR_ROUND:
        raise TooMany(MOST_FOR_ROUND)


def check_table_of_kind(folk, kind, table):
    """Raise NoTable for what is no table of a kind."""
    if not right_table(table, folk) or not is_of_kind(folk, kind, bits_of(folk, table)):
        raise NoTable()


def tables(folk, kind):
    """The ascending list of all tables of a kind, "outright" or "round"."""
    check_kind(folk, kind)
    return sorted(tables_of(folk, bits_of_kind(folk, kind)))


def many_tables(folk, kind):
    """How many tables of a kind there are."""
    check_kind(folk, kind)
    return len(bits_of_kind(folk, kind))


def table_at(folk, kind, number):
    """The table of a kind with a number."""
    found = tables(folk, kind)
    if not number_in(number, 0, len(found) - 1):
        raise NoNumber()
    return found[number]


def table_number(folk, kind, table):
    """The number of a table of a kind."""
    check_kind(folk, kind)
    check_table_of_kind(folk, kind, table)
    return tables(folk, kind).index(table)


def wider(folk, table):
    """The outright table for one person more by which the same lots without this person carry as by a round one."""
    check_folk(folk)
    check_round_folk(folk)
    check_table_of_kind(folk, "round", table)
    return table_of(folk + 1, wider_bits(folk, bits_of(folk, table)))


def narrower(folk, table):
    """The round table of an outright one for one person fewer, the last one."""
    if not number_in(folk, 2, MOST_FOLK):
        raise NoFolk()
    check_table_of_kind(folk, "outright", table)
    return tuple([lot for lot in table if folk - 1 not in lot])
