"""Prime rules, found rules, and books of lists of fewest rows by their uses."""

from lorestead.fields.fields import all_atoms, shown_atoms
from lorestead.fields.listing import mask_of, numbers_of, row_at
from lorestead.lists.breaking import alone_in, breaking_tables, left_in
from lorestead.lists.fewest import fewest_masks, list_keeps
from lorestead.rules.rules import require_rules, rule_numbers
from lorestead.theories.closures import tables_by_table
from lorestead.theories.giving import shown_numbers
from lorestead.theories.lattices import Lattice
from lorestead.theories.theories import loose_in, require_theory


def prime_tables(theory):
    """For each shown atom the table of the masks of the ifs of prime rules whose then it is."""
    lattice = theory.lattice()
    primes = []
    for table, own in zip(theory.tables(), lattice.owns):
        ifs = table ^ (table & own)
        primes.append(ifs ^ (ifs & lattice.above(table)))
    return primes


def is_prime(theory, thing):
    """Whether the thing is a prime rule of the theory."""
    require_theory(theory)
    numbers = rule_numbers(theory.lattice().shown, thing)
    if numbers is None or len(numbers[1]) != 1:
        return False
    ifs, (then,) = numbers
    mask = mask_of(ifs)
    table = theory.tables()[then]
    if then in ifs or not table >> mask & 1:
        return False
    # A part of a part has no more than the part in its closure.
    return not any([table >> (mask ^ 1 << number) & 1 for number in ifs])


def least_numbers(lattice, ifs, thens):
    """The first of the numbers that a rule of these numbers gets by renamings."""
    return min([
        (sorted([images[number] for number in ifs]), sorted([images[number] for number in thens]))
        for images in lattice.images
    ])


def rule_of(lattice, numbers):
    """The shown rule of these numbers."""
    ifs, thens = numbers
    return (row_at(lattice.shown, ifs), row_at(lattice.shown, thens))


def least_primes(theory):
    """The numbers of the least of each kind of prime rules, rising."""
    lattice = theory.lattice()
    found = []
    for then, table in enumerate(prime_tables(theory)):
        for mask in numbers_of(table):
            numbers = (numbers_of(mask), [then])
            if least_numbers(lattice, numbers[0], numbers[1]) == numbers:
                found.append(numbers)
    return sorted(found)


def found_rules(theory):
    """The least of each kind of prime rules, rising."""
    require_theory(theory)
    return tuple([rule_of(theory.lattice(), numbers) for numbers in least_primes(theory)])


def _many_in(table):
    return f"{table:b}".count("1")


def _uses(lattice, loose, broken):
    """Of how many masks the closure is another one without what is broken by each table alone."""
    kept = left_in(loose, broken)
    many = len(lattice.owns)
    tables = tables_by_table(many, kept)
    uses = []
    for alone in alone_in(loose, broken):
        unlike = 0
        if alone:
            for table, other in zip(tables, tables_by_table(many, kept | alone)):
                unlike |= table ^ other
        uses.append(_many_in(unlike))
    return uses


def uses_of(field, rules, *, ground=()):
    """For each of the shown rules, of how many situations the closure by ground and rules isn't that without it."""
    atoms = all_atoms(field)
    lattice = Lattice(shown_atoms(field))
    known = require_rules(lattice.shown, rules)
    loose = loose_in(atoms, shown_numbers(field, atoms), require_rules(atoms, ground))
    return tuple(_uses(lattice, loose, breaking_tables(lattice, known)))


def _in_book(theory, loose, known):
    """The rules of a list, by their numbers, and their uses, the greatest use first, then rising."""
    lattice = theory.lattice()
    uses = _uses(lattice, loose, breaking_tables(lattice, known))
    return [(numbers, -use) for use, numbers in sorted([(-use, numbers) for use, numbers in zip(uses, known)])]


def book_of(theory, *, ground=()):
    """Pairs (rule, use) of a list of fewest rows, each row as its least, by their uses, then rising."""
    require_theory(theory)
    loose = theory.loose_table(ground)
    lattice = theory.lattice()
    known = [
        least_numbers(lattice, numbers_of(stake), numbers_of(closure ^ stake))
        for stake, closure in fewest_masks(theory, loose)
    ]
    return tuple([(rule_of(lattice, numbers), use) for numbers, use in _in_book(theory, loose, known)])


def _is_pair(thing):
    """Whether the thing is a pair of anything and a whole number."""
    return type(thing) is tuple and len(thing) == 2 and type(thing[1]) is int


def shows_book(theory, thing, *, ground=()):
    """Whether the thing is a book of the theory over the ground."""
    require_theory(theory)
    loose = theory.loose_table(ground)
    if type(thing) is not tuple or not all([_is_pair(pair) for pair in thing]):
        return False
    if not list_keeps(theory, loose, tuple([rule for rule, _ in thing])):
        return False
    lattice = theory.lattice()
    known = [rule_numbers(lattice.shown, rule) for rule, _ in thing]
    if not all([least_numbers(lattice, ifs, thens) == (ifs, thens) for ifs, thens in known]):
        return False
    if len(known) != len(fewest_masks(theory, loose)):
        return False
    return _in_book(theory, loose, known) == [(numbers, use) for numbers, (_, use) in zip(known, thing)]
