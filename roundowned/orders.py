"""Where meetings that are held one by one can lead to, and in which orders."""

from roundowned.checks import check_boards, check_house, check_size, check_vote
from roundowned.errors import NoFlag
from roundowned.meetings import changing
from roundowned.turning import driven, is_at_rest

MOST_FOR_ORDERS = 8


def check_stand(web, vote, boards):
    """Raise NoVote or NoBoards for what is none for the web."""
    check_vote(web, vote)
    check_boards(web, boards)


def greatest_end(web, vote, boards):
    """The end of all meetings that turn to yes, then of all that turn to no."""
    check_stand(web, vote, boards)
    return driven(web, vote, driven(web, vote, boards, True), False)


def least_end(web, vote, boards):
    """The end of all meetings that turn to no, then of all that turn to yes."""
    check_stand(web, vote, boards)
    return driven(web, vote, driven(web, vote, boards, False), True)


def settles(web, vote, boards):
    """Whether all orders in which each house meets again and again come to rest, to the same boards."""
    return greatest_end(web, vote, boards) == least_end(web, vote, boards)


def steps(web, vote, boards):
    """The list of the pairs (house, boards behind its meeting) of the meetings that change boards, ascending."""
    return [(house, boards[:house] + (not boards[house],) + boards[house + 1:])
            for house in changing(web, vote, boards)]


def rows_from(web, vote, boards):
    """The dict from all boards that can come, the soonest first, to the least of the shortest rows to them."""
    rows = {boards: ()}
    # Steps are tried in ascending order, so the boards queue by the least of the shortest rows to them.
    queue = [boards]
    at = 0
    while at < len(queue):
        now = queue[at]
        for house, fresh in steps(web, vote, now):
            if fresh not in rows:
                rows[fresh] = rows[now] + (house,)
                queue.append(fresh)
        at += 1
    return rows


def ends(web, vote, boards):
    """The ascending list of all boards at rest to which some meetings lead."""
    return [stand for stand in reachable(web, vote, boards) if is_at_rest(web, vote, stand)]


def end_row(web, vote, boards, end):
    """The least of the shortest rows of meetings that lead to told boards, None if none does."""
    check_stand(web, vote, boards)
    check_boards(web, end)
    check_size(web, MOST_FOR_ORDERS)
    return rows_from(web, vote, boards).get(end)


def reachable(web, vote, boards):
    """The ascending list of all boards that can come, the told ones among them."""
    check_stand(web, vote, boards)
    check_size(web, MOST_FOR_ORDERS)
    return sorted(list(rows_from(web, vote, boards)))


def fewest_meetings(web, vote, boards, house, flag):
    """The least number of meetings behind which a house can stand at a flag, None if it never can."""
    check_stand(web, vote, boards)
    check_house(web, house)
    if not isinstance(flag, bool):
        raise NoFlag()
    check_size(web, MOST_FOR_ORDERS)
    rows = rows_from(web, vote, boards)
    return min([len(rows[stand]) for stand in rows if stand[house] == flag], default=None)


def fate(web, vote, boards, house):
    """At which word a house stands in all ends: "yes" or "no"; "open" if it stands at both."""
    check_stand(web, vote, boards)
    check_house(web, house)
    flags = [end[house] for end in ends(web, vote, boards)]
    if all(flags):
        return "yes"
    return "open" if any(flags) else "no"
