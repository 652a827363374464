"""A town that is led live: meetings, votes, sales and foundings one by one, each of which can be taken back."""

from roundowned.carrying import carried
from roundowned.checks import check_boards, check_person, check_vote
from roundowned.errors import NoEnd, NoFlag, NothingDone, TooMany
from roundowned.making import founded, sold
from roundowned.meetings import met, most_say
from roundowned.owning import clusters

MOST_IN_TOWN = 40


def check_flag(flag):
    """Raise NoFlag for what is no flag."""
    if not isinstance(flag, bool):
        raise NoFlag()


class Town:
    """A web, a vote and boards that change by what is done, and what they were ahead of all that was done."""

    def __init__(self, web, vote, boards):
        check_vote(web, vote)
        check_boards(web, boards)
        self.now = (web, vote, boards)
        self.past = []

    def web(self):
        """The web as it is."""
        return self.now[0]

    def vote(self):
        """The vote as it is."""
        return self.now[1]

    def boards(self):
        """The boards as they are."""
        return self.now[2]

    def turn(self, web, vote, boards):
        """Go on to this web, vote and boards; it can be taken back."""
        self.past.append(self.now)
        self.now = (web, vote, boards)

    def meet(self, house):
        """Hold a meeting and tell the flag at which the house then stands."""
        web, vote, boards = self.now
        fresh = met(web, vote, boards, house)
        self.turn(web, vote, fresh)
        return fresh[house]

    def say(self, person, flag):
        """Change the vote of a person."""
        web, vote, boards = self.now
        check_person(web, person)
        check_flag(flag)
        self.turn(web, vote[:person] + (flag,) + vote[person + 1:], boards)

    def sell(self, house, share, holder):
        """Sell a share of a house, told by its place, to a holder."""
        web, vote, boards = self.now
        self.turn(sold(web, house, share, holder), vote, boards)

    def found(self, shares, flag):
        """Found a house that stands at a flag."""
        web, vote, boards = self.now
        larger = founded(web, shares)
        check_flag(flag)
        if len(web.houses) >= MOST_IN_TOWN:
            raise TooMany(MOST_IN_TOWN)
        self.turn(larger, vote, boards + (flag,))

    def settle(self):
        """Hold rounds of meetings of all houses until one changes nothing, and tell the row of those that did."""
        web, vote, boards = self.now
        many, fresh = settled(web, vote, boards)
        self.turn(web, vote, fresh)
        return tuple(range(len(boards))) * many

    def carried(self, lot):
        """The ascending tuple of the houses that a lot carries."""
        return carried(self.now[0], lot)

    def back(self):
        """Take back what was done last."""
        if not self.past:
            raise NothingDone()
        self.now = self.past.pop()

    def depth(self):
        """How much can be taken back."""
        return len(self.past)

    def copy(self):
        """Another town that goes on apart, and can go back likewise."""
        web, vote, boards = self.now
        other = Town(web, vote, boards)
        other.past = list(self.past)
        return other

    def trying(self, action):
        """What a function returns that is called with the town; what it does to the town is put back."""
        now = self.now
        # A copy, as the function may go back beyond where it began.
        past = list(self.past)
        try:
            return action(self)
        finally:
            self.now = now
            self.past = past


def settled(web, vote, boards):
    """How many rounds of meetings change something until one does not, and the boards then; NoEnd if all rounds do."""
    now = list(boards)
    most = 0
    # Houses that hold nothing of one another come to rest apart, so the rounds are those of the slowest of them.
    for houses in clusters(web):
        most = max(most, rounds_to_rest(web, vote, now, sorted(houses)))
    return (most, tuple(now))


def rounds_to_rest(web, vote, now, houses):
    """Hold such rounds of some houses, whose shares no other house holds, at a list of boards, and count them."""
    seen = {}
    stand = ()
    fresh = tuple([now[house] for house in houses])
    while fresh != stand:
        if fresh in seen:
            raise NoEnd()
        seen[fresh] = True
        stand = fresh
        for house in houses:
            now[house] = most_say(web.houses[house], vote, now)
        fresh = tuple([now[house] for house in houses])
    # The last round changed nothing.
    return len(seen) - 1
