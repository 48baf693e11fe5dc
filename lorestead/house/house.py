"""Houses: rules and worlds that stand together, deeds by which they come and go, and a log of these."""

from lorestead.errors import NoDeed
from lorestead.fields.fields import all_atoms
from lorestead.house.exploring import worlds_to_put
from lorestead.house.standing import Numbered, Seen, require_unbreaking
from lorestead.lists.fewest import fewest_of
from lorestead.rules.rules import require_rule
from lorestead.theories.theories import Theory
from lorestead.theories.verdicts import verdict_on
from lorestead.worlds.small import require_most, require_narrow
from lorestead.worlds.worlds import require_ties

MOST_THINGS = 3
WITH_PART = ("assume", "show", "forget", "hide")


def _read_deed(deed):
    """The word and the part of a deed of a row, "none" and None of what is none."""
    if type(deed) is tuple and len(deed) == 2 and deed[0] in WITH_PART:
        return deed
    if type(deed) is tuple and len(deed) == 1 and deed[0] == "explore":
        return ("explore", None)
    return ("none", None)


class House:
    """Rules and worlds of a field, none of them broken by another; explored are small worlds of at most most things."""

    def __init__(self, field, *, most=MOST_THINGS):
        self._atoms = all_atoms(field)
        require_most(most)
        self._field = field
        self._most = most
        # The rules and worlds that stood at first and behind each deed or row that stands.
        self._stood = [(Numbered({}, 0), Seen(field, Numbered({}, 0), {}))]
        self._entries = []
        self._busy = False

    def _assumed(self, stood, rule):
        rules, seen = stood
        require_rule(self._atoms, rule)
        seen.require_unbroken(rule)
        return rules.next_number, (rules.with_next(rule), seen)

    def _seen(self, stood, world):
        rules, seen = stood
        ties = require_ties(self._field[0], world)
        require_unbreaking(self._field, world, ties, rules)
        return seen.numbered.next_number, (rules, seen.with_next(world, ties))

    def _explored(self, stood):
        rules, seen = stood
        require_narrow(self._field[0], self._most)
        put = worlds_to_put(seen.told(), rules.in_row(), self._most)
        for world in put:
            seen = seen.with_next(world, require_ties(self._field[0], world))
        return len(put), (rules, seen)

    def _done_as_row(self, stood, deeds):
        if type(deeds) is not tuple:
            raise NoDeed("a tuple of deeds is due")
        told = []
        for deed in deeds:
            word, part = _read_deed(deed)
            answer, stood = self._logged(stood, word, part)
            told.append(answer)
        return tuple(told), stood

    def _done(self, stood, word, part):
        """What the deed or row tells, and what stands behind it, None of one that is taken back."""
        rules, seen = stood
        if word == "assume":
            return self._assumed(stood, part)
        if word == "show":
            return self._seen(stood, part)
        if word == "forget":
            return None, (rules.without(part), seen)
        if word == "hide":
            return None, (rules, seen.without(part))
        if word == "explore":
            return self._explored(stood)
        if word == "all":
            return self._done_as_row(stood, part)
        if word == "back" and len(self._stood) > 1:
            return None, None
        raise NoDeed("a deed that stands, or a word of a deed and as many parts as it has, is due")

    def _logged(self, stood, word, part):
        """What _done tells, with the deed or row in the log."""
        self._entries.append((word, "in"))
        ended = "refused"
        try:
            told = self._done(stood, word, part)
            ended = "done"
        finally:
            self._entries.append((word, ended))
        return told

    def _do(self, word, part):
        """What the deed or row tells; it stands from then on, but for one that takes the last one back."""
        self._busy = True
        try:
            told, stood = self._logged(self._stood[-1], word, part)
            if stood is None:
                self._stood.pop()
            else:
                self._stood.append(stood)
        finally:
            self._busy = False
        return told

    def assume(self, rule):
        """Let the rule stand; tell its number."""
        return self._do("assume", rule)

    def show(self, world):
        """Let the world stand; tell its number."""
        return self._do("show", world)

    def forget(self, number):
        """Let the rule of the number stand no more."""
        self._do("forget", number)

    def hide(self, number):
        """Let the world of the number stand no more."""
        self._do("hide", number)

    def explore(self):
        """Put small worlds to it, till its shown rules hold in all in which its rules do; tell how many."""
        return self._do("explore", None)

    def all_of(self, deeds):
        """Do all of the deeds, or none; tell what each tells."""
        return self._do("all", deeds)

    def back(self):
        """Take the last deed or row that stands back."""
        self._do("back", None)

    def rules(self):
        """The rules by their numbers, rising."""
        rules, _ = self._stood[-1]
        return {number: rule for number, rule in rules.by_number.items()}

    def worlds(self):
        """The worlds by their numbers, rising."""
        _, seen = self._stood[-1]
        return {number: world for number, world in seen.numbered.by_number.items()}

    def guesses(self):
        """A list of fewest rows of the theory by its worlds over its rules."""
        rules, seen = self._stood[-1]
        return fewest_of(seen.told(), ground=rules.in_row())[0]

    def verdict(self, rule):
        """The verdict on the rule beside its rules, as they stand in order, of at most its most things."""
        rules, _ = self._stood[-1]
        return verdict_on(self._field, rule, rules=rules.in_row(), most=self._most)

    def theory(self, *, seen=False):
        """The theory by its rules, or, seen, by its worlds."""
        rules, worlds = self._stood[-1]
        if seen:
            return Theory(self._field, worlds=worlds.numbered.in_row())
        return Theory(self._field, rules=rules.in_row())

    def log(self):
        """Pairs of a word and "in", "done" or "refused", for each deed, row and back called."""
        return tuple(self._entries)

    def is_busy(self):
        """Whether it is within a deed."""
        return self._busy

    def __eq__(self, other):
        if not isinstance(other, House):
            return False
        if self._field != other._field or self._most != other._most:
            return False
        return self.rules() == other.rules() and self.worlds() == other.worlds()

    def __len__(self):
        return len(list(self.rules()) + list(self.worlds()))

    def __repr__(self):
        return f"House({len(self.rules())} rules, {len(self.worlds())} worlds)"
