"""Rules: rows of ifs and thens, how they stand, and where they hold."""

from lorestead.errors import NoRule
from lorestead.fields.fields import all_atoms, shown_atoms
from lorestead.fields.listing import images_of, mask_of, numbers_in, row_at
from lorestead.fields.renamings import all_images, renamings, require_renaming
from lorestead.worlds.crowds import broken_by, seen_rule, ways_in
from lorestead.worlds.worlds import crowd_of

MOST_IN_ROW = 20
MOST_RULES = 300


def rule_numbers(atoms, thing):
    """The numbers of a rule's ifs and of its thens among the atoms, None of what is no rule of these."""
    if type(thing) is not tuple or len(thing) != 2:
        return None
    ifs = numbers_in(atoms.row, thing[0])
    if ifs is None or len(ifs) > MOST_IN_ROW:
        return None
    thens = numbers_in(atoms.row, thing[1])
    if not thens or len(thens) > MOST_IN_ROW:
        return None
    return (ifs, thens)


def require_rule(atoms, thing):
    """What rule_numbers tells; NoRule of what is no rule of these atoms."""
    numbers = rule_numbers(atoms, thing)
    if numbers is None:
        raise NoRule("two rows of at most twenty atoms each, the second not empty, are due")
    return numbers


def require_rules(atoms, thing):
    """The numbers of each rule of a tuple of at most 300; NoRule of anything else."""
    if type(thing) is not tuple or len(thing) > MOST_RULES:
        raise NoRule("a tuple of at most 300 rules is due")
    return [require_rule(atoms, rule) for rule in thing]


def is_rule(field, thing, *, shown=False):
    """Whether the thing is a rule, or a shown one, of the field."""
    atoms = shown_atoms(field) if shown else all_atoms(field)
    return rule_numbers(atoms, thing) is not None


def _renamed(images, numbers):
    """The numbers that a rule's ifs, and those that its thens become."""
    ifs, thens = numbers
    return (sorted([images[number] for number in ifs]), sorted([images[number] for number in thens]))


def _rule_at(atoms, numbers):
    ifs, thens = numbers
    return (row_at(atoms, ifs), row_at(atoms, thens))


def renamed_rule(field, rule, renaming):
    """What the rule becomes by the renaming."""
    atoms = all_atoms(field)
    numbers = require_rule(atoms, rule)
    require_renaming(field, renaming)
    return _rule_at(atoms, _renamed(images_of(atoms, renaming), numbers))


def least_rule(field, rule):
    """The first of all rules that the rule becomes by renamings."""
    atoms = all_atoms(field)
    numbers = require_rule(atoms, rule)
    return _rule_at(atoms, min([_renamed(images, numbers) for images in all_images(atoms)]))


def is_rule_ahead(field, rule, thing):
    """Whether the rule stands ahead of the thing, a rule."""
    atoms = all_atoms(field)
    numbers = require_rule(atoms, rule)
    others = rule_numbers(atoms, thing)
    return others is not None and numbers < others


def first_break(crowd, rule, many):
    """The first way of so many unknowns by which the one world of the crowd breaks the rule, or None."""
    seen = seen_rule(crowd, rule)
    for way in ways_in(crowd.things, many):
        if broken_by(crowd, seen, way):
            return way
    return None


def break_of(field, world, rule):
    """The first way by which all ifs of the rule hold in the world, but not all thens, or None."""
    atoms = all_atoms(field)
    crowd = crowd_of(field[0], world)
    require_rule(atoms, rule)
    return first_break(crowd, rule, atoms.unknowns)


def holds_in(field, world, rule):
    """Whether by each way by which all ifs of the rule hold in the world all its thens do."""
    return break_of(field, world, rule) is None


def covers(field, one, other):
    """The first renaming by which the one rule covers the other, or None."""
    atoms = all_atoms(field)
    ifs, thens = require_rule(atoms, one)
    known, wanted = [mask_of(numbers) for numbers in require_rule(atoms, other)]
    for renaming, images in zip(renamings(atoms.unknowns), all_images(atoms)):
        needed = mask_of([images[number] for number in ifs])
        told = mask_of([images[number] for number in thens])
        if needed | known == known and wanted & (known | told) == wanted:
            return renaming
    return None
