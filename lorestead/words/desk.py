"""A desk: rows of words to a house, and its answers in words."""

from lorestead.errors import NoLine
from lorestead.house.house import House
from lorestead.lists.primes import book_of, found_rules
from lorestead.lists.zoo import zoo_of
from lorestead.words.texts import read_field, read_rule, read_world, rule_text, world_text

# Words that have a rest, and words that have none.
WITH_REST = ("field", "assume", "show", "forget", "hide", "ask")
ALONE = ("back", "explore", "guesses", "book", "found", "closed", "zoo", "rules", "worlds")
MOST_FIGURES = 9
FINE = "ok"


def _read_number(text):
    """The number of at most nine figures that is so written; NoLine of anything else."""
    is_number = text.isascii() and text.isdigit() and len(text) <= MOST_FIGURES
    if not is_number or text[0] == "0" and len(text) > 1:
        raise NoLine("a number of at most nine figures is due")
    return int(text)


def _listed(texts):
    return " | ".join(texts) if texts else "none"


class Desk:
    """Rows are said to it; the house that it has is that of the last row that told a field."""

    def __init__(self):
        self._house = None
        self._home = None
        self._said = []
        self._entries = []
        self._busy = False

    def say(self, row):
        """The answer to the row."""
        text = row if type(row) is str else ""
        self._busy = True
        self._said.append(text)
        self._entries.append(("in", text))
        try:
            told = self._answer(row)
        finally:
            self._entries.append(("out", text))
            self._busy = False
        return told

    def many(self, rows):
        """The answers to the rows, up to the first that is refused."""
        if type(rows) is not tuple:
            raise NoLine("a tuple of rows is due")
        return tuple([self.say(row) for row in rows])

    def log(self):
        """Pairs of "in" or "out" and a row, for each that was begun."""
        return tuple(self._entries)

    def is_busy(self):
        """Whether it is within a row."""
        return self._busy

    def __len__(self):
        return len(self._said)

    def _answer(self, row):
        if type(row) is not str:
            raise NoLine("a text is due")
        word, blank, rest = row.partition(" ")
        if word not in (WITH_REST if blank else ALONE):
            raise NoLine("a word that the desk knows, with the rest that is due, if any, behind one blank, is due")
        number = _read_number(rest) if word in ("forget", "hide") else None
        if word == "field":
            return self._move(read_field(rest))
        if self._house is None:
            raise NoLine("a field is due ahead of all else")
        if word in ("assume", "ask"):
            return self._answer_on_rule(word, read_rule(self._home, rest))
        if word == "show":
            return str(self._house.show(read_world(self._home, rest)))
        if number is not None:
            return self._take_out(word, number)
        return self._answer_alone(word)

    def _move(self, field):
        self._house = House(field)
        self._home = field
        return FINE

    def _answer_on_rule(self, word, rule):
        if word == "assume":
            return str(self._house.assume(rule))
        verdict = self._house.verdict(rule)
        if verdict[0] == "broken":
            return f"broken {world_text(self._home, verdict[1])}"
        return verdict[0]

    def _take_out(self, word, number):
        if word == "forget":
            self._house.forget(number)
        else:
            self._house.hide(number)
        return FINE

    def _answer_alone(self, word):
        if word == "back":
            self._house.back()
            return FINE
        if word == "explore":
            return str(self._house.explore())
        if word == "rules":
            rules = self._house.rules()
            return _listed([f"{number} {rule_text(self._home, rule)}" for number, rule in rules.items()])
        if word == "worlds":
            worlds = self._house.worlds()
            return _listed([f"{number} {world_text(self._home, world)}" for number, world in worlds.items()])
        return str(self._how_many(word))

    def _how_many(self, word):
        if word == "guesses":
            return len(self._house.guesses())
        theory = self._house.theory()
        if word == "book":
            return len(book_of(theory))
        if word == "found":
            return len(found_rules(theory))
        if word == "zoo":
            return len(zoo_of(theory)[0])
        return len(theory)
