"""Meetings that are drawn by chance, or called by two callers by turns."""

from roundowned.checks import check_house, check_size, number_in
from roundowned.errors import NoNumber
from roundowned.lots import fraction
from roundowned.meetings import met
from roundowned.orders import check_stand, rows_from, steps

MOST_FOR_CHANCE = 6
MOST_FOR_CALLERS = 8
MOST_CALLS = 60


def chance(web, vote, boards, house):
    """The fraction of the chance that a house stands at yes in the end, each meeting being drawn by even chance."""
    check_stand(web, vote, boards)
    check_house(web, house)
    check_size(web, MOST_FOR_CHANCE)
    behind = {stand: [fresh for _, fresh in steps(web, vote, stand)] for stand in rows_from(web, vote, boards)}
    if not behind[boards]:
        return (int(boards[house]), 1)
    # The told boards come last: what is asked is just their chance, which is left when all others are counted out.
    moving = [stand for stand in behind if behind[stand]][::-1]
    last, top = counted_out([equation(stand, behind, moving, house) for stand in moving])
    return fraction(top, last)


def equation(stand, behind, moving, house):
    """The factors of the chances of the moving boards, and behind them what their sum with these factors is.

    Meetings that change nothing only delay: each changing one is as likely as each other one.
    """
    factors = [-behind[stand].count(other) for other in moving]
    factors[moving.index(stand)] = len(behind[stand])
    return factors + [len([fresh for fresh in behind[stand] if not behind[fresh] and fresh[house]])]


def counted_out(lines):
    """The last factor of the last equation, and its sum, when the chances of all others are counted out.

    No factor that is divided by is 0, because from all boards it comes to rest; each division is even.
    """
    ahead = 1
    while len(lines) > 1:
        top = lines[0]
        lines = [[(top[0] * one - line[0] * above) // ahead for one, above in zip(line[1:], top[1:])]
                 for line in lines[1:]]
        ahead = top[0]
    return lines[0]


def called(web, vote, boards, house, many):
    """Whether the first of two callers can bring it about that a house stands at yes behind so many meetings."""
    check_stand(web, vote, boards)
    check_house(web, house)
    if not number_in(many, 0, MOST_CALLS):
        raise NoNumber()
    check_size(web, MOST_FOR_CALLERS)
    stands = list(rows_from(web, vote, boards))
    numbers = {stand: number for number, stand in enumerate(stands)}
    behind = [[numbers[met(web, vote, stand, goal)] for goal in range(len(web.houses))] for stand in stands]
    won = [stand[house] for stand in stands]
    for left in range(1, many + 1):
        won = won_ahead(won, behind, (many - left) % 2 == 0)
    return won[0]


def won_ahead(won, behind, first):
    """For which boards the first caller wins, one call ahead of those told, which is the first one's or is not."""
    if first:
        return [any([won[number] for number in numbers]) for numbers in behind]
    return [all([won[number] for number in numbers]) for numbers in behind]
