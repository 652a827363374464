"""The errors of the package: each derives directly from HouseError."""


class HouseError(ValueError):
    """What all errors of the package are."""

    def __init__(self):
        ValueError.__init__(self)


class BadWeb(HouseError):
    """A web is not as told: its part is "folk", "houses" or the number of a house."""

    def __init__(self, part):
        self.part = part


class NoHouse(HouseError):
    """A thing is no number of a house."""


class NoHolder(HouseError):
    """A thing is no holder in the web."""


class NoShare(HouseError):
    """A thing is no place of a share of the house."""


class NoShares(HouseError):
    """A thing is no tuple of shares, or the shares of two webs do not match."""


class NoClosing(HouseError):
    """A house has an even number of left holders."""


class NoOrder(HouseError):
    """A thing is no tuple with each number once."""


class NoMatch(HouseError):
    """Two webs have unlike numbers of folk or houses."""


class NoPerson(HouseError):
    """A thing is no number of one of the folk."""


class NoFolk(HouseError):
    """A thing is no number of folk that fits."""


class NoVote(HouseError):
    """A thing is no tuple with a flag for each of the folk."""


class NoBoards(HouseError):
    """A thing is no tuple with a flag for each house."""


class NoRow(HouseError):
    """A thing is no list or tuple of houses."""


class NoLot(HouseError):
    """A thing is no ascending tuple of some of the folk."""


class TooMany(HouseError):
    """There are more houses, holders, folk or ways than the most that are allowed."""

    def __init__(self, most):
        self.most = most


class NoRest(HouseError):
    """A thing is no boards at rest."""


class NotOwn(HouseError):
    """A web is not own."""


class NoFlag(HouseError):
    """A thing is no flag."""


class NoNumber(HouseError):
    """A thing is no number that fits."""


class NoTable(HouseError):
    """A thing is no table as told."""


class NoTables(HouseError):
    """A thing is no list or tuple of tables as told."""


class NoKind(HouseError):
    """A thing is no kind of tables."""


class NoPrices(HouseError):
    """A thing is no prices."""


class NoDoubts(HouseError):
    """A thing is no doubts."""


class NoMinutes(HouseError):
    """A thing is no minutes."""


class NoEnd(HouseError):
    """Rounds of meetings come to no end."""


class NothingDone(HouseError):
    """There is nothing to take back."""


class BadText(HouseError):
    """A text is not as told in a line, counted from 1, or is no string: line 0."""

    def __init__(self, line):
        self.line = line


class NoLine(HouseError):
    """A thing is no line for the desk."""


class NoName(HouseError):
    """There is no web of this name."""

    def __init__(self, name):
        self.name = name
