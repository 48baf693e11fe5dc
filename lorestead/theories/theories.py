"""Theories: told by rules, by worlds or by situations; their closures, and the rules that they have."""

from lorestead.errors import NoGround, NoRule, NoSituation, NoTheory, NoWorld
from lorestead.fields.fields import all_atoms, shown_atoms
from lorestead.fields.listing import mask_of, numbers_in, numbers_of, row_at
from lorestead.fields.renamings import all_images
from lorestead.rules.rules import require_rule, require_rules, rule_numbers
from lorestead.theories.closures import closed_in, closure_in, tables_by_rows, tables_by_table
from lorestead.theories.giving import giving_rows, grown, shown_numbers
from lorestead.theories.lattices import Lattice
from lorestead.worlds.crowds import broken_in, crowds_of, situations_in, ways_in
from lorestead.worlds.worlds import require_ties

MOST_WORLDS = 1000
MOST_SITUATIONS = 1100


def _crowds(notions, thing):
    """The worlds of a tuple of at most so many, a crowd for those of as many things; NoWorld of anything else."""
    if type(thing) is not tuple or len(thing) > MOST_WORLDS:
        raise NoWorld("a tuple of at most 1000 worlds is due")
    known = []
    for place, world in enumerate(thing):
        numbers = require_ties(notions, world)
        known.append((place, world[0], numbers))
    return [crowd for crowd, _ in crowds_of(notions, known)]


def _whole_masks(shown, whole, thing):
    """The masks of a tuple of at most so many whole situations, by the table of these; NoSituation of anything else."""
    if type(thing) is not tuple or len(thing) > MOST_SITUATIONS:
        raise NoSituation("a tuple of at most 1100 situations is due")
    masks = []
    for situation in thing:
        numbers = numbers_in(shown.row, situation)
        if numbers is None or not whole >> mask_of(numbers) & 1:
            raise NoSituation("a whole situation of the field is due")
        masks.append(mask_of(numbers))
    return masks


def loose_in(atoms, shown, known):
    """The table of the masks of shown atoms, by these numbers among all, that are closed by the known rules alone."""
    return closed_in(tables_by_rows(len(atoms.row), shown, giving_rows(atoms, known)))


class Theory:
    """A theory of a field, by rules where neither worlds nor situations are told."""

    def __init__(self, field, *, rules=(), worlds=None, situations=None):
        self._atoms = all_atoms(field)
        self._shown = shown_atoms(field)
        self._numbers = shown_numbers(field, self._atoms)
        known = require_rules(self._atoms, rules)
        self._crowds = [] if worlds is None else _crowds(field[0], worlds)
        self._loose = None if situations is None else loose_in(self._atoms, self._numbers, [])
        self._masks = [] if situations is None else _whole_masks(self._shown, self._loose, situations)
        if [rules != (), worlds is not None, situations is not None].count(True) > 1:
            raise NoTheory("a theory is told by rules, by worlds or by situations alone")
        self._field = field
        self._rules = rules
        self._worlds = worlds
        self._situations = situations
        self._rows = giving_rows(self._atoms, known) if worlds is None and situations is None else []
        # These are worked out when they are first asked for, as a theory may be asked for others alone.
        self._kept = None
        self._closed = None
        self._places = None
        self._lattice = None

    def _all_masks(self):
        """The masks of the situations that closures are made of, where rules are told none."""
        if self._worlds is not None:
            return [mask for crowd in self._crowds for mask in situations_in(crowd, self._shown)]
        rows = [numbers_of(mask) for mask in self._masks]
        return [mask_of([image[at] for at in row]) for image in all_images(self._shown) for row in rows]

    def tables(self):
        """For each shown atom the table of the masks of those situations whose closures have it."""
        if self._kept is None:
            if self._worlds is None and self._situations is None:
                self._kept = tables_by_rows(len(self._atoms.row), self._numbers, self._rows)
            else:
                self._kept = tables_by_table(len(self._numbers), mask_of(self._all_masks()))
        return self._kept

    def lattice(self):
        """The lattice of all situations of the field."""
        if self._lattice is None:
            self._lattice = Lattice(self._shown)
        return self._lattice

    def closed_table(self):
        """The table of the masks of the closed situations."""
        if self._closed is None:
            self._closed = closed_in(self.tables())
        return self._closed

    def closed_places(self):
        """The number of each closed situation, by its mask, as they stand in order."""
        if self._places is None:
            order = self.lattice().in_order(self.closed_table())
            self._places = {mask: place for place, (_, _, mask) in enumerate(order)}
        return self._places

    def numbers_of_shown(self, thing):
        """The numbers of a situation's atoms among the shown ones; NoSituation of what is none."""
        numbers = numbers_in(self._shown.row, thing)
        if numbers is None:
            raise NoSituation("a rising tuple of unlike shown atoms is due")
        return numbers

    def had_numbers(self, thing):
        """Each rule's numbers among the shown atoms, of a tuple of such as the theory has; NoRule of anything else."""
        known = require_rules(self._shown, thing)
        for ifs, thens in known:
            told = mask_of(thens)
            if closure_in(self.tables(), mask_of(ifs)) & told != told:
                raise NoRule("a rule that the theory has is due")
        return known

    def loose_table(self, ground):
        """The table of the masks that are closed by the rules of the ground alone; NoRule, NoGround of what is none."""
        known = require_rules(self._atoms, ground)
        if not known and self._loose is not None:
            return self._loose
        for number, rule in enumerate(ground):
            is_shown = self._situations is None or rule_numbers(self._shown, rule) is not None
            if not is_shown or not self.has(rule):
                raise NoGround(number)
        loose = loose_in(self._atoms, self._numbers, known)
        if not known:
            self._loose = loose
        return loose

    def field(self):
        """The field, as handed in."""
        return self._field

    def rules(self):
        """The rules, as handed in."""
        return self._rules

    def worlds(self):
        """The worlds, as handed in, or None."""
        return self._worlds

    def situations(self):
        """The situations, as handed in, or None."""
        return self._situations

    def closure(self, situation):
        """The closure of the situation."""
        numbers = self.numbers_of_shown(situation)
        return row_at(self._shown, numbers_of(closure_in(self.tables(), mask_of(numbers))))

    def has(self, rule):
        """Whether the theory has the rule."""
        shown = rule_numbers(self._shown, rule)
        if shown is not None:
            ifs, thens = [mask_of(numbers) for numbers in shown]
            return closure_in(self.tables(), ifs) & thens == thens
        ifs, thens = [mask_of(numbers) for numbers in require_rule(self._atoms, rule)]
        if self._situations is not None:
            raise NoRule("a shown rule is due where a theory is told by situations")
        if self._worlds is None:
            return grown(self._rows, ifs) & thens == thens
        many = self._shown.unknowns
        return not any([broken_in(crowd, rule, ways_in(crowd.things, many)) for crowd in self._crowds])

    def is_closed(self, thing):
        """Whether the thing is a situation that is its closure."""
        numbers = numbers_in(self._shown.row, thing)
        if numbers is None:
            return False
        mask = mask_of(numbers)
        return closure_in(self.tables(), mask) == mask

    def __eq__(self, other):
        if not isinstance(other, Theory):
            return False
        return self._field == other._field and self.closed_table() == other.closed_table()

    def __len__(self):
        return len(numbers_of(self.closed_table()))

    def __repr__(self):
        return f"Theory({len(self)} closed)"


def require_theory(thing):
    """Raise NoTheory of what is no theory."""
    if not isinstance(thing, Theory):
        raise NoTheory("a theory is due")
