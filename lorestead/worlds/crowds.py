"""Crowds: worlds of equally many things, all looked at at once."""

from itertools import combinations, permutations

from lorestead.fields.listing import mask_of, numbers_of
from lorestead.fields.renamings import all_images


def all_ties(notions, things):
    """All ties of these notions that there could be of so many things, as Python sorts them."""
    ones = [(one,) for one in range(things)]
    twos = [(one, other) for one in range(things) for other in range(things)]
    return [(name, row) for name, places in sorted(notions) for row in (ones if places == 1 else twos)]


def cells_of(many, numbers):
    """Of so many ties, by their numbers, whether each is among these: 1 or 0."""
    cells = [0] * many
    for number in numbers:
        cells[number] = 1
    return cells


def _turned(part, things):
    return [part[other * things + one] for one in range(things) for other in range(things)]


def _chained(first, second, things):
    told = []
    for one in range(things):
        row = [0] * things
        for amid in range(things):
            ahead = first[one * things + amid]
            if ahead:
                behind = second[amid * things:(amid + 1) * things]
                row = [cell | ahead & other for cell, other in zip(row, behind)]
        told += row
    return told


def _some(part, things):
    told = []
    for one in range(things):
        anywhere = 0
        for cell in part[one * things:(one + 1) * things]:
            anywhere |= cell
        told.append(anywhere)
    return told


class Crowd:
    """Worlds of equally many things: each of its numbers has a bit for each world, so one look goes over all.

    The cells tell, for each tie that there could be, in order, in which worlds it is.
    """

    def __init__(self, notions, things, full, cells):
        self.things = things
        self.full = full
        self.known = {}
        start = 0
        for name, places in sorted(notions):
            end = start + (things if places == 1 else things * things)
            self.known[name] = cells[start:end]
            start = end

    def where(self, term):
        """For each tuple of things, as Python sorts them, in which worlds the term holds of it."""
        if term not in self.known:
            self.known[term] = self._worked_out(term)
        return self.known[term]

    def _worked_out(self, term):
        word = term[0]
        first = self.where(term[1])
        if word == "not":
            return [self.full ^ cell for cell in first]
        if word == "turned":
            return _turned(first, self.things)
        if word == "some":
            return _some(first, self.things)
        second = self.where(term[2])
        if word == "both":
            return [cell & other for cell, other in zip(first, second)]
        if word == "either":
            return [cell | other for cell, other in zip(first, second)]
        return _chained(first, second, self.things)


def crowds_of(notions, known):
    """For worlds of as many things each a crowd and its worlds' places, of triples (place, things, ties' numbers)."""
    alike = {}
    for place, things, numbers in known:
        alike.setdefault(things, []).append((place, numbers))
    crowds = []
    for things in sorted(alike):
        cells = [0] * len(all_ties(notions, things))
        for at, (_, numbers) in enumerate(alike[things]):
            for number in numbers:
                cells[number] |= 1 << at
        crowd = Crowd(notions, things, (1 << len(alike[things])) - 1, cells)
        crowds.append((crowd, [place for place, _ in alike[things]]))
    return crowds


def ways_in(things, many):
    """All tuples of so many unlike ones of the things, rising."""
    return list(permutations(range(things), many))


def cell_by(crowd, cells, unknowns, way):
    """In which worlds of the crowd what these cells tell holds of the unknowns' things, by the way."""
    if len(unknowns) == 1:
        return cells[way[unknowns[0]]]
    one, other = unknowns
    return cells[way[one] * crowd.things + way[other]]


def seen_row(crowd, row):
    """The row's atoms as pairs of the term's cells and the unknowns."""
    return [(crowd.where(term), unknowns) for term, unknowns in row]


def _held(crowd, seen, way):
    held = crowd.full
    for cells, unknowns in seen:
        held &= cell_by(crowd, cells, unknowns, way)
        if not held:
            return 0
    return held


def seen_rule(crowd, rule):
    """The rule's ifs and thens, each as seen rows."""
    ifs, thens = rule
    return (seen_row(crowd, ifs), seen_row(crowd, thens))


def broken_by(crowd, seen, way):
    """In which worlds of the crowd all ifs hold by the way, but not all thens, of a seen rule."""
    ifs, thens = seen
    held = _held(crowd, ifs, way)
    if not held:
        return 0
    return held ^ (held & _held(crowd, thens, way))


def broken_in(crowd, rule, ways):
    """Which worlds of the crowd break the rule by any of the ways."""
    seen = seen_rule(crowd, rule)
    broken = 0
    for way in ways:
        broken |= broken_by(crowd, seen, way)
    return broken


def parted(crowd, worlds, seen, way):
    """Pairs of some of these worlds of the crowd and the mask of the seen atoms that hold in them by the way."""
    groups = [(worlds, 0)]
    for number, (cells, unknowns) in enumerate(seen):
        cell = cell_by(crowd, cells, unknowns, way)
        found = []
        for some, mask in groups:
            within = some & cell
            if within:
                found.append((within, mask | 1 << number))
            if within != some:
                found.append((some ^ within, mask))
        groups = found
    return groups


def rising_ways(things, many):
    """All ways of so many unknowns that rise themselves; two ways of the same things have situations that are alike."""
    return list(combinations(range(things), many))


def situations_in(crowd, shown):
    """The masks of the situations of all ways in all worlds of the crowd, each once."""
    seen = seen_row(crowd, shown.row)
    found = {}
    for way in rising_ways(crowd.things, shown.unknowns):
        for _, mask in parted(crowd, crowd.full, seen, way):
            found[mask] = True
    rows = [numbers_of(mask) for mask in found]
    renamed = [mask_of([images[number] for number in row]) for images in all_images(shown) for row in rows]
    return list({mask: True for mask in renamed})
