"""What an argument must be, and the errors for those that are not so."""

from roundowned.errors import (NoBoards, NoFolk, NoHolder, NoHouse, NoLot, NoMatch, NoPerson, NoTable, NoVote,
                               TooMany)
from roundowned.people import is_part

MOST_FOLK = 6
MOST_SHARES = 15
MOST_PRICE = 1000


def whole(thing):
    """Whether a thing is an integer."""
    return isinstance(thing, int) and not isinstance(thing, bool)


def number_in(thing, low, high):
    """Whether a thing is an integer from low to high."""
    return whole(thing) and low <= thing <= high


def numbers_below(things, many):
    """Whether all of some things are integers from 0 on, fewer than many."""
    return all([number_in(thing, 0, many - 1) for thing in things])


def climbs(numbers):
    """Whether each number, or tuple of a kind, is less than the next one."""
    return all([low < high for low, high in zip(numbers, numbers[1:])])


def right_lot(thing, many):
    """Whether a thing is an ascending tuple of unlike numbers below many, perhaps none."""
    return isinstance(thing, tuple) and numbers_below(thing, many) and climbs(thing)


def right_table(thing, folk):
    """Whether a thing is an ascending tuple of lots of so many folk, none of them a part of another one."""
    if not isinstance(thing, tuple) or not all([right_lot(lot, folk) for lot in thing]) or not climbs(thing):
        return False
    return not any([is_part(lot, other) for lot in thing for other in thing if lot != other])


def right_order(thing, many):
    """Whether a thing is a tuple with each number below many once."""
    return isinstance(thing, tuple) and numbers_below(thing, many) and sorted(thing) == list(range(many))


def right_flags(thing, many):
    """Whether a thing is a tuple of so many flags."""
    return isinstance(thing, tuple) and len(thing) == many and all([isinstance(flag, bool) for flag in thing])


def right_holder(thing, folk, many):
    """Whether a thing is a holder in a web of so many folk and so many houses."""
    if not isinstance(thing, tuple) or len(thing) != 2 or not isinstance(thing[0], str):
        return False
    if thing[0] == "f":
        return number_in(thing[1], 0, folk - 1)
    return thing[0] == "h" and number_in(thing[1], 0, many - 1)


def right_shares(thing, folk, many):
    """Whether a thing is what a house of a web of so many folk and houses is constructed from."""
    if not isinstance(thing, tuple) or len(thing) > MOST_SHARES or len(thing) % 2 == 0:
        return False
    return all([right_holder(holder, folk, many) for holder in thing]) and list(thing) == sorted(thing)


def right_share(web, thing):
    """Whether a thing is a pair of a house and the place of a share of it."""
    if not isinstance(thing, tuple) or len(thing) != 2 or not number_in(thing[0], 0, len(web.houses) - 1):
        return False
    return number_in(thing[1], 0, len(web.houses[thing[0]]) - 1)


def right_prices(thing, many):
    """Whether a thing is a tuple of so many prices."""
    return isinstance(thing, tuple) and len(thing) == many and all([number_in(price, 0, MOST_PRICE) for price in thing])


def right_row(thing, many):
    """Whether a thing is a list or tuple of numbers below many."""
    return isinstance(thing, (list, tuple)) and numbers_below(thing, many)


def check_house(web, house):
    """Raise NoHouse for what is no number of a house."""
    if not number_in(house, 0, len(web.houses) - 1):
        raise NoHouse()


def check_person(web, person):
    """Raise NoPerson for what is no number of one of the folk."""
    check_one_of(web.folk, person)


def check_holder(web, holder):
    """Raise NoHolder for what is no holder in the web."""
    if not right_holder(holder, web.folk, len(web.houses)):
        raise NoHolder()


def check_vote(web, vote):
    """Raise NoVote for what is no vote of the folk."""
    if not right_flags(vote, web.folk):
        raise NoVote()


def check_boards(web, boards):
    """Raise NoBoards for what is no boards of the houses."""
    if not right_flags(boards, len(web.houses)):
        raise NoBoards()


def check_lot(web, lot):
    """Raise NoLot for what is no lot of the folk."""
    if not right_lot(lot, web.folk):
        raise NoLot()


def check_folk(folk):
    """Raise NoFolk for what is no number of folk."""
    if not number_in(folk, 1, MOST_FOLK):
        raise NoFolk()


def check_one_of(folk, person):
    """Raise NoPerson for what is no number of one of so many folk."""
    if not number_in(person, 0, folk - 1):
        raise NoPerson()


def check_table(folk, thing):
    """Raise NoTable for what is no table for so many folk."""
    if not right_table(thing, folk):
        raise NoTable()


def check_match(one, other):
    """Raise NoMatch for webs with unlike numbers of folk or houses."""
    if one.folk != other.folk or len(one.houses) != len(other.houses):
        raise NoMatch()


def check_size(web, most):
    """Raise TooMany for more houses than the most that a function takes."""
    if len(web.houses) > most:
        raise TooMany(most)
