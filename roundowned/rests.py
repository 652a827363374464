"""Boards at rest: no meeting changes them."""

from roundowned.checks import check_size, check_vote, right_flags
from roundowned.errors import NoRest, NotOwn
from roundowned.people import all_flags
from roundowned.rings import is_ringless
from roundowned.turning import driven, is_at_rest

MOST_FOR_RESTS = 12


def rests(web, vote):
    """The ascending list of all boards at rest."""
    check_vote(web, vote)
    check_size(web, MOST_FOR_RESTS)
    return [boards for boards in all_flags(len(web.houses)) if is_at_rest(web, vote, boards)]


def many_rests(web, vote):
    """How many boards are at rest."""
    return len(rests(web, vote))


def greatest_rest(web, vote):
    """The boards at rest with the most houses at yes."""
    check_vote(web, vote)
    return driven(web, vote, tuple([True for _ in web.houses]), False)


def least_rest(web, vote):
    """The boards at rest with the fewest houses at yes."""
    check_vote(web, vote)
    return driven(web, vote, tuple([False for _ in web.houses]), True)


def higher(web, vote, one, other):
    """The least boards at rest above two such."""
    check_vote(web, vote)
    check_rest(web, vote, one)
    check_rest(web, vote, other)
    # From what is at yes in one of them no meeting turns to no, so all that stands above stays above.
    return driven(web, vote, tuple([flag or also for flag, also in zip(one, other)]), True)


def lower(web, vote, one, other):
    """The greatest boards at rest below two such."""
    check_vote(web, vote)
    check_rest(web, vote, one)
    check_rest(web, vote, other)
    return driven(web, vote, tuple([flag and also for flag, also in zip(one, other)]), False)


def check_rest(web, vote, boards):
    """Raise NoRest for what is no boards at rest."""
    if not right_flags(boards, len(web.houses)) or not is_at_rest(web, vote, boards):
        raise NoRest()


def double_votes(web):
    """The ascending list of the votes with more than one boards at rest."""
    return [vote for vote in all_flags(web.folk) if greatest_rest(web, vote) != least_rest(web, vote)]


def is_own(web):
    """Whether each of the folk holds at most one share, and houses hold nowhere more than half, rounded up."""
    holders = [holder for shares in web.houses for holder in shares if holder[0] == "f"]
    if len(set(holders)) < len(holders):
        return False
    return all([houses_share(shares) <= len(shares) // 2 + 1 for shares in web.houses])


def houses_share(shares):
    """How many of some shares houses hold."""
    return len([number for kind, number in shares if kind == "h"])


def double(web):
    """A vote and two unlike boards at rest for it, for an own web with a ring; None without a ring."""
    if not is_own(web):
        raise NotOwn()
    if is_ringless(web):
        return None
    # By the fifth fact there is such a vote.
    vote = double_votes(web)[0]
    return (vote, least_rest(web, vote), greatest_rest(web, vote))
