"""What the document says of worlds, rules and term rows, worked out plainly, to hold the program's answers against."""

import itertools
import random

from lorestead.fields.fields import atoms_of


def all_ties(field, things):
    """All ties that there could be, as Python sorts them."""
    ties = []
    for name, places in field[0]:
        ties += [(name, row) for row in itertools.product(range(things), repeat=places)]
    return sorted(ties)


def some_worlds(field, many, most=5, seed=0):
    """So many worlds of one to `most` things, of few and of many ties."""
    chance = random.Random(repr((field, many, most, seed)))
    worlds = []
    for _ in range(many):
        things = chance.randint(1, most)
        ties = all_ties(field, things)
        share = chance.random()
        worlds.append((things, tuple(tie for tie in ties if chance.random() < share)))
    return worlds


def some_rules(field, many, shown=False, ifs=3, thens=2, seed=0):
    """So many rules of at most so many ifs and thens."""
    chance = random.Random(repr((field, many, shown, ifs, thens, seed)))
    atoms = atoms_of(field, shown=shown)

    def row(least, most):
        numbers = chance.sample(range(len(atoms)), min(len(atoms), chance.randint(least, most)))
        return tuple(atoms[number] for number in sorted(numbers))

    return [(row(0, ifs), row(1, thens)) for _ in range(many)]


def holds(world, term, things):
    """Whether the term holds of the things in the world."""
    many, ties = world
    if isinstance(term, str):
        return (term, things) in ties
    word, *parts = term
    if word == "not":
        return not holds(world, parts[0], things)
    if word == "both":
        return holds(world, parts[0], things) and holds(world, parts[1], things)
    if word == "either":
        return holds(world, parts[0], things) or holds(world, parts[1], things)
    if word == "turned":
        return holds(world, parts[0], (things[1], things[0]))
    if word == "chain":
        return any(holds(world, parts[0], (things[0], amid)) and holds(world, parts[1], (amid, things[1]))
                   for amid in range(many))
    return any(holds(world, parts[0], (things[0], other)) for other in range(many))


def ways(field, world):
    """All ways, rising."""
    return sorted(itertools.permutations(range(world[0]), field[2]))


def atom_holds(world, atom, way):
    """Whether the atom holds by the way."""
    term, unknowns = atom
    return holds(world, term, tuple(way[unknown] for unknown in unknowns))


def situation(field, world, way, shown=True):
    """The row of the atoms that hold by the way."""
    return tuple(atom for atom in atoms_of(field, shown=shown) if atom_holds(world, atom, way))


def break_of(field, world, rule):
    """The first way by which all ifs hold and not all thens, or None."""
    ifs, thens = rule
    for way in ways(field, world):
        if all(atom_holds(world, atom, way) for atom in ifs):
            if not all(atom_holds(world, atom, way) for atom in thens):
                return way
    return None


def likes(world):
    """All worlds that the world becomes where its things get other numbers, sorted by their ties."""
    things, ties = world
    found = set()
    for order in itertools.permutations(range(things)):
        found.add(tuple(sorted((name, tuple(order[thing] for thing in row)) for name, row in ties)))
    return [(things, row) for row in sorted(found)]


def small_worlds(field, things, rules=()):
    """All worlds of so many things in which the rules hold, each the first of its likes, sorted by their ties."""
    ties = all_ties(field, things)
    rows = [row for many in range(len(ties) + 1) for row in itertools.combinations(ties, many)]
    left = set(rows)
    told = []
    for row in sorted(rows):
        if row in left:
            world = (things, row)
            left -= {other for _, other in likes(world)}
            if all(break_of(field, world, rule) is None for rule in rules):
                told.append(world)
    return told


def breaker(field, rule, rules, most):
    """The first small world of at most so many things in which the rules hold and that breaks the rule, or None."""
    for things in range(1, most + 1):
        for world in small_worlds(field, things, rules):
            if break_of(field, world, rule) is not None:
                return world
    return None


def places(field, row):
    """The numbers of the row's atoms among all."""
    atoms = atoms_of(field)
    return tuple(atoms.index(atom) for atom in row)


def row_of(field, atoms):
    """The atoms, rising, each once."""
    return tuple(atom for atom in atoms_of(field) if atom in set(atoms))


def renamed(field, row, renaming):
    """What the row becomes by the renaming."""
    return row_of(field, [(term, tuple(renaming[unknown] for unknown in unknowns)) for term, unknowns in row])


def renamings(field):
    """All renamings, rising."""
    return sorted(itertools.permutations(range(field[2])))


def rule_key(field, rule):
    """What rules stand by."""
    return (places(field, rule[0]), places(field, rule[1]))


def told_by_terms(field, row):
    """The set of all atoms that term rows tell by what is in the row, those that are in it, too."""
    there = set(row)
    atoms = atoms_of(field)
    unknowns = range(field[2])
    told = set()
    for term in {atom[0] for atom in atoms if isinstance(atom[0], tuple)}:
        word, first, second = term[0], term[1], term[-1]
        for spot in {atom[1] for atom in atoms if atom[0] == term}:
            whole = (term, spot)
            if word == "not" and whole in there and (first, spot) in there:
                told |= set(atoms)
            if word == "both":
                if whole in there:
                    told |= {(first, spot), (second, spot)}
                if (first, spot) in there and (second, spot) in there:
                    told.add(whole)
            if word == "either" and ((first, spot) in there or (second, spot) in there):
                told.add(whole)
            if word == "turned":
                back = (first, spot[::-1])
                told |= ({whole} if back in there else set()) | ({back} if whole in there else set())
            if word == "chain" and any((first, (spot[0], amid)) in there and (second, (amid, spot[1])) in there
                                       for amid in unknowns):
                told.add(whole)
            if word == "some" and any((first, (spot[0], other)) in there for other in unknowns):
                told.add(whole)
    return told


def told_at_once(field, row, rules):
    """The set of all atoms that come at once by the rules and by term rows of what is in the row."""
    there = set(row)
    told = told_by_terms(field, row)
    for rule in rules:
        for renaming in renamings(field):
            if set(renamed(field, rule[0], renaming)) <= there:
                told |= set(renamed(field, rule[1], renaming))
    return told


def given_of(field, row, rules):
    """All that the rules give of the row, and after how many rounds each row stood, the last one twice."""
    rows = [row_of(field, row)]
    while len(rows) < 2 or rows[-1] != rows[-2]:
        rows.append(row_of(field, set(rows[-1]) | told_at_once(field, rows[-1], rules)))
    return rows[-1], rows


def is_walk(field, rules, rule, thing):
    """Whether the thing, a tuple of steps of the right forms, is a walk to the rule."""
    there = set(rule[0])
    for step in thing:
        if step[0] == "rule":
            _, number, renaming, atom = step
            ifs, thens = [renamed(field, row, renaming) for row in rules[number]]
            if not set(ifs) <= there or atom not in thens:
                return False
        elif step[1] not in told_by_terms(field, tuple(there)):
            return False
        there.add(step[-1])
    return set(rule[1]) <= there


def all_situations(field):
    """All situations, as their lengths stand."""
    atoms = atoms_of(field, shown=True)
    return [row for many in range(len(atoms) + 1) for row in itertools.combinations(atoms, many)]


def closure(field, row, rules=None, worlds=None, situations=None):
    """The closure of the situation in a theory that is told so."""
    shown = atoms_of(field, shown=True)
    if rules is not None:
        return tuple(atom for atom in given_of(field, row, rules)[0] if atom in shown)
    if worlds is not None:
        rows = [situation(field, world, way) for world in worlds for way in ways(field, world)]
    else:
        rows = [renamed(field, told, renaming) for told in situations for renaming in renamings(field)]
    left = set(shown)
    for told in rows:
        if set(row) <= set(told):
            left &= set(told)
    return row_of(field, left)
