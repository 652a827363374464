"""A desk that keeps webs by names and works by lines."""

from roundowned.carrying import carried
from roundowned.errors import NoLine, NoName, NothingDone
from roundowned.knots import verdict
from roundowned.orders import ends
from roundowned.reading import flags_from, number_from, numbers_from, read_web
from roundowned.rests import greatest_rest, least_rest
from roundowned.tables import kind, table
from roundowned.texts import flags_text, numbers_text, words_or

MOST_LETTERS = 8
LETTERS = "abcdefghijklmnopqrstuvwxyz"
# Behind its first word a line has a word of each of these forms; what is asked of a web has its name ahead.
CHANGES = {"web": ("name", "lines"), "drop": ("name",), "names": (), "undo": ()}
QUESTIONS = {
    "carried": ("name", "lot"),
    "verdict": ("name", "lot", "house"),
    "table": ("name", "house"),
    "rest": ("name", "flags"),
    "ends": ("name", "flags", "flags"),
    "kind": ("name", "house"),
}


def line_from(line):
    """The pair of the first word of a line and the list of what the others tell; NoLine for what is no line."""
    if not isinstance(line, str) or "\n" in line:
        raise NoLine()
    words = line.split(" ")
    if words[0] == "web":
        # The text of a web has blanks itself.
        words = line.split(" ", 2)
    forms = CHANGES.get(words[0], QUESTIONS.get(words[0]))
    if forms is None or len(words) != len(forms) + 1:
        raise NoLine()
    things = [thing_from(form, word) for form, word in zip(forms, words[1:])]
    if None in things:
        raise NoLine()
    return (words[0], things)


def thing_from(form, word):
    """What a word of a form tells, None if it has another form."""
    if form == "name":
        return word if is_name(word) else None
    if form == "lines":
        return word if word else None
    if form == "lot":
        return numbers_from(word, ",")
    if form == "flags":
        return () if word == "-" else flags_from(word)
    return number_from(word)


def is_name(word):
    """Whether a word is a name: some small letters, not too many."""
    return 0 < len(word) <= MOST_LETTERS and all([letter in LETTERS for letter in word])


def carried_answer(web, things):
    """The houses that a lot carries."""
    return words_or([str(house) for house in carried(web, things[0])], "none")


def verdict_answer(web, things):
    """Who carries a house."""
    return verdict(web, things[0], things[1])


def table_answer(web, things):
    """The least lots of a house."""
    return words_or([numbers_text(lot, ",") for lot in table(web, things[0])], "none")


def rest_answer(web, things):
    """The least and the greatest boards at rest."""
    return flags_text(least_rest(web, things[0])) + " " + flags_text(greatest_rest(web, things[0]))


def ends_answer(web, things):
    """The boards at rest to which meetings lead."""
    return " ".join([flags_text(end) for end in ends(web, things[0], things[1])])


def kind_answer(web, things):
    """The kind of the table of a house."""
    return kind(web.folk, table(web, things[0]))


ANSWERS = {
    "carried": carried_answer,
    "verdict": verdict_answer,
    "table": table_answer,
    "rest": rest_answer,
    "ends": ends_answer,
    "kind": kind_answer,
}


class Desk:
    """Webs by their names, and what stood under these ahead of each change."""

    def __init__(self):
        self.webs = {}
        self.past = []

    def tell(self, line):
        """Do what a line tells, and return the answer."""
        word, things = line_from(line)
        if word == "names":
            return words_or(sorted(list(self.webs)), "none")
        if word == "undo":
            return self.take_back()
        if word == "web":
            return self.put(things[0], read_web(things[1].replace("|", "\n")))
        if things[0] not in self.webs:
            raise NoName(things[0])
        if word == "drop":
            return self.put(things[0], None)
        answer = ANSWERS[word]
        return answer(self.webs[things[0]], things[1:])

    def put(self, name, web):
        """Keep a web under a name, or none, so that it can be taken back."""
        self.past.append((name, self.webs.get(name)))
        self.keep(name, web)
        return "ok"

    def keep(self, name, web):
        """Keep a web under a name, or none."""
        if web is None:
            del self.webs[name]
        else:
            self.webs[name] = web

    def take_back(self):
        """Put back what stood under the name that was changed last."""
        if not self.past:
            raise NothingDone()
        name, web = self.past.pop()
        self.keep(name, web)
        return "ok"

    def undoable(self):
        """How many changes can be taken back."""
        return len(self.past)
