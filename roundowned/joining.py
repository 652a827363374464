"""Tables made from tables."""

from roundowned.bits import bits_of, bits_of_kind, is_round, set_in_bits, table_of, tables_of, turned_bits
from roundowned.checks import check_folk, check_one_of, check_table
from roundowned.errors import NoTable


def turned(folk, table):
    """The table of the lots whose rests do not carry."""
    check_folk(folk)
    check_table(folk, table)
    return table_of(folk, turned_bits(folk, bits_of(folk, table)))


def both(folk, table, other):
    """The table of the lots that carry by both tables."""
    check_folk(folk)
    check_table(folk, table)
    check_table(folk, other)
    return table_of(folk, bits_of(folk, table) & bits_of(folk, other))


def either(folk, table, other):
    """The table of the lots that carry by one table or the other."""
    check_folk(folk)
    check_table(folk, table)
    check_table(folk, other)
    return table_of(folk, bits_of(folk, table) | bits_of(folk, other))


def without(folk, table, person):
    """The table of the lots without a person that carry."""
    check_folk(folk)
    check_table(folk, table)
    check_one_of(folk, person)
    return tuple([lot for lot in table if person not in lot])


def above(folk, table):
    """The ascending list of all outright tables by which all lots that carry by a round table carry."""
    check_folk(folk)
    check_table(folk, table)
    bits = bits_of(folk, table)
    if not is_round(folk, bits):
        raise NoTable()
    return sorted(tables_of(folk, [wide for wide in bits_of_kind(folk, "outright") if bits & wide == bits]))


def set_in(folk, table, person, other):
    """The table by which a lot carries if it does by the first, with the person just if it does by the other one."""
    check_folk(folk)
    check_table(folk, table)
    check_one_of(folk, person)
    check_table(folk, other)
    return table_of(folk, set_in_bits(folk, bits_of(folk, table), person, bits_of(folk, other)))
