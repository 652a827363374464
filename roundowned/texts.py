"""Webs, tables and minutes as texts."""


def in_lines(lines):
    """The text of some lines, each closed by a line feed."""
    return "".join([line + "\n" for line in lines])


def words_or(words, none):
    """Some words with blanks between, or the word for none."""
    return " ".join(words) if words else none


def numbers_text(numbers, sign):
    """Some numbers with a sign between, `-` for none."""
    return sign.join([str(number) for number in numbers]) if numbers else "-"


def flags_text(flags):
    """Some flags as a word of `y` and `n`, `-` for none."""
    return "".join(["y" if flag else "n" for flag in flags]) if flags else "-"


def web_text(web):
    """The text of a web: a line for the folk, and one for each house."""
    lines = ["folk " + str(web.folk)]
    for shares in web.houses:
        lines.append(" ".join(["house"] + [kind + str(number) for kind, number in shares]))
    return in_lines(lines)


def table_text(table):
    """The text of a table: a line for each lot."""
    return in_lines([numbers_text(lot, " ") for lot in table])


def minutes_text(minutes):
    """The text of minutes: a line for each pair."""
    return in_lines([flags_text(vote) + " " + flags_text([flag]) for vote, flag in minutes])
