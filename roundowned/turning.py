"""Meetings that turn houses all to one side, held as long as there is one."""

from roundowned.meetings import most_say
from roundowned.owning import house_holdings


def is_at_rest(web, vote, boards):
    """Whether no meeting changes right boards."""
    for house, shares in enumerate(web.houses):
        if most_say(shares, vote, boards) != boards[house]:
            return False
    return True


def driven(web, vote, boards, flag):
    """The boards behind all meetings that turn a house to a flag; their order makes no difference."""
    now = list(boards)
    lacking = [lacking_flags(shares, vote, boards, flag) for shares in web.houses]
    into = house_holdings(web)
    queue = [house for house, many in enumerate(lacking) if many <= 0 and boards[house] != flag]
    at = 0
    while at < len(queue):
        house = queue[at]
        now[house] = flag
        for goal in into[house]:
            lacking[goal] -= 1
            # Just when the last one is counted off: a house that goes on below 0 queues already.
            if lacking[goal] == 0 and boards[goal] != flag:
                queue.append(goal)
        at += 1
    return tuple(now)


def lacking_flags(shares, vote, boards, flag):
    """How many shares that say a flag are lacking for most of some shares to do."""
    alike = [number for kind, number in shares if (vote if kind == "f" else boards)[number] == flag]
    return len(shares) // 2 + 1 - len(alike)
