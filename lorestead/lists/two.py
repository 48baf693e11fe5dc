"""Two theories of one field: joined, shared, the one within the other or beyond it, and what is new."""

from lorestead.errors import Unlike
from lorestead.fields.listing import mask_of, numbers_of
from lorestead.lists.primes import is_prime, least_primes, prime_tables, rule_of
from lorestead.lists.zoo import marked_kinds
from lorestead.theories.closures import closed_in, tables_by_table
from lorestead.theories.theories import Theory, require_theory


def _require_two(one, other):
    """Raise NoTheory of what is none of the two, Unlike where they aren't of one field."""
    require_theory(one)
    require_theory(other)
    if one.field() != other.field():
        raise Unlike("two theories of one field are due")


def _theory_of(theory, closed):
    """A theory of the field of this one whose closed situations are those of the table."""
    lattice = theory.lattice()
    kinds = marked_kinds(lattice, closed)
    return Theory(theory.field(), situations=tuple([lattice.situation_at(kind[0]) for kind in kinds]))


def joined_of(one, other):
    """The theory whose closed situations are closed in both."""
    _require_two(one, other)
    return _theory_of(one, one.closed_table() & other.closed_table())


def shared_of(one, other):
    """The theory that has just the shown rules that both have."""
    _require_two(one, other)
    closed = one.closed_table() | other.closed_table()
    return _theory_of(one, closed_in(tables_by_table(len(one.tables()), closed)))


def compared_of(one, other):
    """("within",) where all shown rules of the one are the other's, else ("beyond", rule), a prime one that isn't."""
    _require_two(one, other)
    for then, (table, had) in enumerate(zip(prime_tables(one), other.tables())):
        beyond = table ^ (table & had)
        if beyond:
            first = numbers_of(beyond)[0]
            return ("beyond", rule_of(one.lattice(), (numbers_of(first), [then])))
    return ("within",)


def shows_compared(one, other, thing):
    """Whether the thing is what compared_of may tell of the two."""
    _require_two(one, other)
    if type(thing) is not tuple or len(thing) not in (1, 2):
        return False
    if len(thing) == 1:
        return thing[0] == "within" and one.closed_table() | other.closed_table() == one.closed_table()
    return thing[0] == "beyond" and is_prime(one, thing[1]) and not other.has(thing[1])


def _found_beyond(one, other):
    """The found rules of the one that the other hasn't."""
    had = other.tables()
    return tuple([
        rule_of(one.lattice(), (ifs, thens)) for ifs, thens in least_primes(one)
        if not had[thens[0]] >> mask_of(ifs) & 1
    ])


def news_of(one, other):
    """(lost, won): the found rules of the one that the other hasn't, and of the other that the one hasn't."""
    _require_two(one, other)
    return (_found_beyond(one, other), _found_beyond(other, one))
