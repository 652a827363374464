"""Tables as integers: of each lot that carries one bit is set, at its place.

The place of a lot is an integer, too: of each person among it the bit with this number is set.
"""

from roundowned.people import all_lots


def place_of(lot):
    """The place of a lot."""
    return sum([1 << person for person in lot])


def every_bit(folk):
    """The bits of all lots of so many folk."""
    return (1 << (1 << folk)) - 1


def bits_without(folk, person):
    """The bits of all lots without a person."""
    # Blocks of as many bits as the person counts in a place are set and not set by turns.
    return every_bit(folk) // ((1 << (1 << person)) + 1)


def with_one_more(folk, bits, person):
    """The bits of the lots told that do not have a person, moved to where they have."""
    return (bits & bits_without(folk, person)) << (1 << person)


def with_one_less(folk, bits, person):
    """The bits of the lots told that have a person, moved to where they do not."""
    return (bits >> (1 << person)) & bits_without(folk, person)


def bits_of(folk, table):
    """The bits of all lots that carry by a table."""
    bits = sum([1 << place_of(lot) for lot in table])
    for person in range(folk):
        bits = bits | with_one_more(folk, bits, person)
    return bits


def bits_of_one(folk, person):
    """The bits of all lots with a person."""
    return every_bit(folk) ^ bits_without(folk, person)


def table_of(folk, bits):
    """The table by which just these lots carry."""
    return tables_of(folk, [bits])[0]


def tables_of(folk, rows):
    """The list of the tables of a list of bits."""
    # What is the same for all of them is found once: there may be thousands.
    marks = [(1 << place_of(lot), lot) for lot in all_lots(folk)]
    ways = [(bits_without(folk, person), 1 << person) for person in range(folk)]
    return [least_in(marks, ways, bits) for bits in rows]


def least_in(marks, ways, bits):
    """The tuple of the lots that carry, but not without any one of theirs."""
    greater = 0
    for low, step in ways:
        greater = greater | ((bits & low) << step)
    return tuple([lot for mark, lot in marks if mark & bits and not mark & greater])


def flipped(folk, bits, person):
    """The bits with each lot taken for that which differs from it by a person."""
    return with_one_more(folk, bits, person) | with_one_less(folk, bits, person)


def mirrored(folk, bits):
    """The bits with each lot taken for its rest."""
    for person in range(folk):
        bits = flipped(folk, bits, person)
    return bits


def turned_bits(folk, bits):
    """The bits of the lots whose rests do not carry."""
    return every_bit(folk) ^ mirrored(folk, bits)


def is_round(folk, bits):
    """Whether each two lots that carry have somebody in common: of no lot and its rest both carry."""
    return bits & mirrored(folk, bits) == 0


def is_outright(folk, bits):
    """Whether of each lot and its rest just one carries."""
    return bits == turned_bits(folk, bits)


def is_of_kind(folk, kind, bits):
    """Whether bits are of a kind, "outright" or "round"."""
    return is_outright(folk, bits) if kind == "outright" else is_round(folk, bits)


def wider_bits(folk, bits):
    """The outright bits for one person more by which the same lots without this person carry as by round ones."""
    return bits | (turned_bits(folk, bits) << (1 << folk))


def set_in_bits(folk, bits, person, other):
    """The bits of the lots that carry with the person among them just if they carry by other bits."""
    without = bits & bits_without(folk, person)
    having = with_one_less(folk, bits, person)
    return both_ways(folk, without, person) | (both_ways(folk, having, person) & other)


def both_ways(folk, bits, person):
    """The bits of lots without a person, and of these with this person."""
    return bits | with_one_more(folk, bits, person)


def rising(folk):
    """The list of the bits of all tables."""
    found = [0, 1]
    for person in range(folk):
        # Whoever carries without the person has to carry with this person.
        found = [low | (high << (1 << person)) for low in found for high in found if low & high == low]
    return found


def bits_of_kind(folk, kind):
    """The list of the bits of all tables of a kind, "outright" or "round"."""
    if kind == "round":
        return [bits for bits in rising(folk) if is_round(folk, bits)]
    # By the eighth fact: far fewer have to be tried for one person fewer.
    return [wider_bits(folk - 1, bits) for bits in bits_of_kind(folk - 1, "round")]
