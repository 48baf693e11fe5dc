"""Lists of fewest rows that keep a theory over a ground, and the stakes that show that fewer don't."""

from lorestead.errors import NoRule
from lorestead.fields.listing import mask_of, numbers_in, numbers_of
from lorestead.lists.breaking import alone_in, breaking_tables, left_in
from lorestead.rules.rules import rule_numbers
from lorestead.theories.closures import closure_in
from lorestead.theories.theories import require_theory


def _keeps(theory, loose, broken):
    """Whether what is left of the loose situations without the broken ones is what is closed in the theory."""
    return left_in(loose, broken) == theory.closed_table()


def keeps(theory, rules, *, ground=()):
    """Whether the ground's rules and these, shown ones that the theory has, make a theory with its shown rules."""
    require_theory(theory)
    known = theory.had_numbers(rules)
    loose = theory.loose_table(ground)
    return _keeps(theory, loose, breaking_tables(theory.lattice(), known))


def spare_of(theory, rules, *, ground=()):
    """The numbers of rows each of which by itself can be left out of the list that keeps."""
    require_theory(theory)
    known = theory.had_numbers(rules)
    loose = theory.loose_table(ground)
    broken = breaking_tables(theory.lattice(), known)
    if not _keeps(theory, loose, broken):
        raise NoRule("a list that keeps the theory over the ground is due")
    # What a row alone breaks would be left without it.
    return tuple([number for number, table in enumerate(alone_in(loose, broken)) if not table])


def list_keeps(theory, loose, thing):
    """Whether the thing is a tuple of shown rules that keeps the theory over the ground of the loose table."""
    if type(thing) is not tuple:
        return False
    known = [rule_numbers(theory.lattice().shown, rule) for rule in thing]
    return None not in known and _keeps(theory, loose, breaking_tables(theory.lattice(), known))


def _are_apart(tables, one, kind):
    """Whether of the mask and each of the kind the closure of what both have lies in the one or in the other."""
    for other in kind:
        both = closure_in(tables, one & other)
        if both | one != one and both | other != other:
            return False
    return True


def _shows_stakes(theory, loose, thing):
    """Whether the thing are stakes of the theory over the ground of the loose table."""
    if type(thing) is not tuple:
        return False
    stakes = loose ^ theory.closed_table()
    kinds = []
    for situation in thing:
        numbers = numbers_in(theory.lattice().shown.row, situation)
        if numbers is None or not stakes >> mask_of(numbers) & 1:
            return False
        mask = mask_of(numbers)
        if not all([_are_apart(theory.tables(), mask, kind) for kind in kinds]):
            return False
        kinds.append(theory.lattice().kind_of(mask))
    return True


def are_stakes(theory, thing, *, ground=()):
    """Whether the thing are situations of which no two could be broken by one row of a list that keeps."""
    require_theory(theory)
    return _shows_stakes(theory, theory.loose_table(ground), thing)


def fewest_masks(theory, loose):
    """Pairs of masks: of the stakes over the ground of the loose table, and of their closures in the theory."""
    lattice = theory.lattice()
    left = loose ^ theory.closed_table()
    pairs = []
    while left:
        # Stakes with some of its atoms alone have lower masks, so they are all taken, and so the lowest left is one.
        mask = (left & -left).bit_length() - 1
        closure = closure_in(theory.tables(), mask)
        pairs.append((mask, closure))
        left ^= left & lattice.breaking(numbers_of(mask), numbers_of(closure))
    return pairs


def fewest_of(theory, *, ground=()):
    """(list, stakes): a list that keeps the theory over the ground, and as many stakes."""
    require_theory(theory)
    pairs = fewest_masks(theory, theory.loose_table(ground))
    stakes = [theory.lattice().situation_at(mask) for mask, _ in pairs]
    thens = [theory.lattice().situation_at(closure ^ mask) for mask, closure in pairs]
    return (tuple(zip(stakes, thens)), tuple(stakes))


def shows_fewest(theory, thing, *, ground=()):
    """Whether the thing is (list, stakes) of the theory over the ground."""
    require_theory(theory)
    loose = theory.loose_table(ground)
    if type(thing) is not tuple or len(thing) != 2:
        return False
    told, stakes = thing
    if not list_keeps(theory, loose, told) or not _shows_stakes(theory, loose, stakes):
        return False
    return len(told) == len(stakes)
