"""Which houses a lot of the folk carries, and the rows that show it."""

from roundowned.checks import check_house, check_lot, check_size, numbers_below
from roundowned.owning import house_holdings

MOST_FOR_SHORTEST = 12


def carried(web, lot):
    """The ascending tuple of all houses that a lot carries."""
    return tuple(sorted([house for wave in carried_in(web, lot) for house in wave]))


def carried_in(web, lot):
    """The list of the ascending tuples of the houses that a lot carries, each behind those by which it does."""
    check_lot(web, lot)
    lacking = lacking_shares(web, lot)
    into = house_holdings(web)
    wave = [house for house, many in enumerate(lacking) if many <= 0]
    found = []
    while wave:
        found.append(tuple(wave))
        wave = next_wave(wave, into, lacking)
    return found


def lacking_shares(web, lot):
    """For each house how many shares the folk of a lot lack to have more than half of them."""
    return [len(shares) // 2 + 1 - len([number for kind, number in shares if kind == "f" and number in lot])
            for shares in web.houses]


def next_wave(wave, into, lacking):
    """The houses that lack no share any more with those of a wave, whose shares are counted off."""
    fresh = []
    for house in wave:
        for goal in into[house]:
            lacking[goal] -= 1
            # Just when the last one is counted off: a house that is carried already goes on below 0.
            if lacking[goal] == 0:
                fresh.append(goal)
    return sorted(fresh)


def row(web, lot, house):
    """A row of houses, each having more than half of its shares with the lot and those ahead, that ends in one."""
    check_lot(web, lot)
    check_house(web, house)
    ahead = ()
    for wave in carried_in(web, lot):
        if house in wave:
            return ahead + (house,)
        ahead = ahead + wave
    return None


def is_row(web, lot, house, thing):
    """Whether a thing is such a row."""
    return row_fault(web, lot, house, thing) is None


def row_fault(web, lot, house, thing):
    """None for such a row, otherwise the first fault of a thing."""
    check_lot(web, lot)
    check_house(web, house)
    if not isinstance(thing, tuple) or len(thing) == 0 or not numbers_below(thing, len(web.houses)):
        return ("form",)
    place = first_twice(thing)
    if place is not None:
        return ("twice", place)
    place = first_without_half(web, lot, thing)
    if place is not None:
        return ("half", place)
    if thing[-1] != house:
        return ("end",)
    return None


def first_twice(houses):
    """The first place with a house that stood there already, None if there is none."""
    ahead = {}
    for place, house in enumerate(houses):
        if house in ahead:
            return place
        ahead[house] = True
    return None


def first_without_half(web, lot, houses):
    """The first place with a house that has not more than half with the lot and those ahead, None if there is none."""
    ahead = {}
    for place, house in enumerate(houses):
        if not has_half(web.houses[house], lot, ahead):
            return place
        ahead[house] = True
    return None


def has_half(shares, lot, houses):
    """Whether more than half of some shares are with a lot and some houses."""
    with_them = [number for kind, number in shares if number in (lot if kind == "f" else houses)]
    return 2 * len(with_them) > len(shares)


def shortest_row(web, lot, house):
    """The least of the shortest such rows, None if the lot does not carry the house."""
    check_lot(web, lot)
    check_house(web, house)
    check_size(web, MOST_FOR_SHORTEST)
    if house not in carried(web, lot):
        return None
    lacking = lacking_shares(web, lot)
    tables = share_tables(web)
    rows = [()]
    ends = rows_to(house, rows, tables, lacking)
    while not ends:
        rows = longer_rows(rows, tables, lacking)
        ends = rows_to(house, rows, tables, lacking)
    return ends[0]


def share_tables(web):
    """For each house the list with the number of its shares that each house holds."""
    return [[shares.count(("h", number)) for number in range(len(web.houses))] for shares in web.houses]


def rows_to(house, rows, tables, lacking):
    """Those of some rows that can go on to a house, with it."""
    return [ahead + (house,) for ahead in rows if lacking[house] <= sum([tables[house][other] for other in ahead])]


def longer_rows(rows, tables, lacking):
    """The rows longer by one house, ascending: of those of the same houses just the least."""
    found = {}
    for house in range(len(tables)):
        for longer in rows_to(house, [ahead for ahead in rows if house not in ahead], tables, lacking):
            houses = tuple(sorted(longer))
            found[houses] = min(longer, found.get(houses, longer))
    return sorted(list(found.values()))
