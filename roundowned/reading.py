"""Webs, tables and minutes read from texts."""

from roundowned.errors import BadText
from roundowned.webs import Web

MOST_FIGURES = 9


def read_lines(text, first, other):
    """The list of what a function reads from the first line of a text, and another one from each other line.

    They return None for a line that has not their form.
    """
    if not isinstance(text, str):
        raise BadText(0)
    lines = text.split("\n")
    found = []
    for line in lines[:-1]:
        reader = other if found else first
        thing = reader(line)
        if thing is None:
            raise BadText(len(found) + 1)
        found.append(thing)
    if lines[-1] != "":
        raise BadText(len(lines))
    return found


def number_from(word):
    """The number that a word tells, None if it has other signs than figures, too many, or needless zeros."""
    if not 0 < len(word) <= MOST_FIGURES or not all([sign in "0123456789" for sign in word]):
        return None
    if word[0] == "0" and word != "0":
        return None
    return int(word)


def numbers_from(text, sign):
    """The tuple of the numbers that stand in a text with a sign between, () for `-`, None if it has another form."""
    if text == "-":
        return ()
    numbers = [number_from(word) for word in text.split(sign)]
    return None if None in numbers else tuple(numbers)


def flags_from(word):
    """The tuple of the flags that a word of `y` and `n` tells, None if it is none."""
    if word == "" or not all([sign in "yn" for sign in word]):
        return None
    return tuple([sign == "y" for sign in word])


def holder_from(word):
    """The holder that a word tells, None if it is none."""
    number = number_from(word[1:])
    if number is None or word[0] not in "fh":
        return None
    return (word[0], number)


def folk_from(line):
    """The number of folk that a line tells, None if it has another form."""
    words = line.split(" ")
    return number_from(words[1]) if len(words) == 2 and words[0] == "folk" else None


def house_from(line):
    """The tuple of holders that a line tells, None if it has another form."""
    words = line.split(" ")
    if len(words) < 2 or words[0] != "house":
        return None
    holders = [holder_from(word) for word in words[1:]]
    return None if None in holders else tuple(holders)


def lot_from(line):
    """The tuple of numbers of folk that a line tells, None if it has another form."""
    return numbers_from(line, " ")


def minute_from(line):
    """The pair (vote, flag) that a line tells, None if it has another form."""
    words = line.split(" ")
    if len(words) != 2 or len(words[1]) != 1:
        return None
    vote, flags = [flags_from(word) for word in words]
    return None if vote is None or flags is None else (vote, flags[0])


def read_web(text):
    """The web of a text."""
    found = read_lines(text, folk_from, house_from)
    if not found:
        raise BadText(1)
    return Web(found[0], tuple(found[1:]))


def read_table(text):
    """The tuple of the lots of a text."""
    return tuple(read_lines(text, lot_from, lot_from))


def read_minutes(text):
    """The list of the pairs (vote, flag) of a text."""
    return read_lines(text, minute_from, minute_from)
