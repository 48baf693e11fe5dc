"""Atoms by their numbers: what rows, rules and worlds are looked up in."""


class Atoms:
    """The atoms, all or the shown ones, of what is known to be a field, in order."""

    def __init__(self, field, found, shown):
        _, chosen, many = field
        ones = [(one,) for one in range(many)]
        twos = [(one, other) for one in range(many) for other in range(many)]
        spans = []
        row = []
        for text in sorted(found):
            term, places = found[text]
            if not shown or term in chosen:
                spans.append((len(row), term, places))
                row += [(term, unknowns) for unknowns in (ones if places == 1 else twos)]
        self.unknowns = many
        self.row = row
        # For each term the number of its first atom, and its places.
        self.spans = spans


def numbers_in(known, thing):
    """The numbers that the parts of a rising tuple of some known pairs have among these, None of anything else."""
    if type(thing) is not tuple or len(thing) > len(known):
        return None
    if not thing:
        return []
    numbers = []
    wanted = thing[0]
    for number, pair in enumerate(known):
        if pair == wanted:
            numbers.append(number)
            if len(numbers) == len(thing):
                break
            wanted = thing[len(numbers)]
    if len(numbers) < len(thing):
        return None
    # Python takes True and 1 for equal, so truths must be told apart by themselves.
    if any([type(part) is not int for _, parts in thing for part in parts]):
        return None
    return numbers


def number_in(atoms, thing):
    """The number of the thing among the atoms, -1 where it is none of them."""
    if type(thing) is not tuple or len(thing) != 2 or type(thing[1]) is not tuple:
        return -1
    wanted, unknowns = thing
    place = 0
    for one in unknowns:
        if type(one) is not int or not 0 <= one < atoms.unknowns:
            return -1
        place = place * atoms.unknowns + one
    for start, term, places in atoms.spans:
        if term == wanted and len(unknowns) == places:
            return start + place
    return -1


def mask_of(numbers):
    """A whole number that has a bit for each of the numbers."""
    mask = 0
    for number in numbers:
        mask |= 1 << number
    return mask


def numbers_of(mask):
    """The numbers whose bits the mask has, rising."""
    return [number for number, sign in enumerate(f"{mask:b}"[::-1]) if sign == "1"]


def row_at(atoms, numbers):
    """The row of the atoms of these numbers, which rise."""
    return tuple([atoms.row[number] for number in numbers])


def images_of(atoms, renaming):
    """For each atom, by its number, the number of what it becomes by the renaming."""
    twos = [one * atoms.unknowns + other for one in renaming for other in renaming]
    images = []
    for start, _, places in atoms.spans:
        images += [start + place for place in (renaming if places == 1 else twos)]
    return images
