"""Meetings: a house turns to what most of its shares say."""

from math import lcm

from roundowned.checks import check_boards, check_house, check_vote, right_row
from roundowned.errors import NoRow
from roundowned.owning import clusters


def most_say(shares, vote, boards):
    """What most of some shares say."""
    yes = [number for kind, number in shares if (vote if kind == "f" else boards)[number]]
    return 2 * len(yes) > len(shares)


def says(web, vote, boards, house):
    """What most shares of a house say: folk by the vote, houses by the boards."""
    check_vote(web, vote)
    check_boards(web, boards)
    check_house(web, house)
    return most_say(web.houses[house], vote, boards)


def met(web, vote, boards, house):
    """The boards behind a meeting of a house."""
    flag = says(web, vote, boards, house)
    return boards[:house] + (flag,) + boards[house + 1:]


def meetings(web, vote, boards, row):
    """The list of the boards behind each meeting of a row."""
    check_vote(web, vote)
    check_boards(web, boards)
    if not right_row(row, len(web.houses)):
        raise NoRow()
    found = []
    now = boards
    for house in row:
        now = met(web, vote, now, house)
        found.append(now)
    return found


def changing(web, vote, boards):
    """The ascending tuple of the houses whose meeting changes the boards."""
    fresh = all_met(web, vote, boards)
    return tuple([house for house, flag in enumerate(fresh) if flag != boards[house]])


def all_met(web, vote, boards):
    """The boards if all houses meet at once."""
    check_vote(web, vote)
    check_boards(web, boards)
    return tuple([most_say(shares, vote, boards) for shares in web.houses])


def cycle(web, vote, boards):
    """All houses meeting at once: behind how many meetings boards come that come again, and behind how many more."""
    check_vote(web, vote)
    check_boards(web, boards)
    ahead = 0
    period = 1
    # Houses that hold nothing of one another turn apart: all of them come again when each lot of them does.
    for houses in clusters(web):
        first, more = cycle_of(web, vote, boards, houses)
        ahead = max(ahead, first)
        period = lcm(period, more)
    return (ahead, period)


def cycle_of(web, vote, boards, houses):
    """The cycle of some houses, whose shares no other house holds."""
    now = list(boards)
    seen = {}
    shown = tuple([now[house] for house in houses])
    while shown not in seen:
        seen[shown] = len(seen)
        shown = tuple([most_say(web.houses[house], vote, now) for house in houses])
        for house, flag in zip(houses, shown):
            now[house] = flag
    return (seen[shown], len(seen) - seen[shown])
