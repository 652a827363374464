"""Lots of the folk: ascending tuples of some of them."""


def parts(lot):
    """The list of all parts of a lot, the smaller ones ahead, those of one size ascending."""
    found = [()]
    for person in lot:
        found = found + [part + (person,) for part in found]
    return sorted(found, key=size_first)


def size_first(lot):
    """By what lots are ordered if the smaller ones come ahead."""
    return (len(lot), lot)


def is_part(part, lot):
    """Whether all of one lot are among another one."""
    return all([person in lot for person in part])


def has_part(lot, parts_told):
    """Whether one of some lots is a part of a lot."""
    return any([is_part(part, lot) for part in parts_told])


def all_lots(folk):
    """The ascending list of all lots of so many folk."""
    return sorted(parts(tuple(range(folk))))


def rest_of(folk, lot):
    """All others of so many folk than those of a lot."""
    return without(tuple(range(folk)), lot)


def without(lot, part):
    """What is left of a lot without those of another one."""
    return tuple([person for person in lot if person not in part])


def together(lot, other):
    """Those of two lots that have nobody in common."""
    return tuple(sorted(lot + other))


def all_flags(many):
    """The ascending list of all tuples of so many flags."""
    found = [()]
    for _ in range(many):
        found = [flags + (flag,) for flags in found for flag in (False, True)]
    return found
