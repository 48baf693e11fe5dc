"""All situations of a field, by their masks: what lies beneath and above them, and what they become by renamings.

A table has a bit for each mask, as for closures.
"""

from lorestead.fields.listing import mask_of, numbers_of, row_at
from lorestead.fields.renamings import all_images
from lorestead.theories.closures import all_masks, own_tables


class Lattice:
    """The situations of what are known to be a field's shown atoms."""

    def __init__(self, shown):
        self.shown = shown
        self.full = all_masks(len(shown.row))
        # For each atom, which masks have it.
        self.owns = own_tables(len(shown.row))
        # For each renaming, rising, what becomes of the atoms.
        self.images = all_images(shown)

    def situation_at(self, mask):
        """The situation of the mask."""
        return row_at(self.shown, numbers_of(mask))

    def having(self, numbers):
        """The table of the masks that have all atoms of these numbers."""
        held = self.full
        for number in numbers:
            held &= self.owns[number]
        return held

    def breaking(self, ifs, thens):
        """The table of the masks in which a rule of these numbers doesn't hold."""
        broken = 0
        for images in self.images:
            held = self.having([images[number] for number in ifs])
            broken |= held ^ (held & self.having([images[number] for number in thens]))
        return broken

    def kind_of(self, mask):
        """The masks of all situations that the one of this mask becomes, each once."""
        numbers = numbers_of(mask)
        return list({mask_of([images[number] for number in numbers]): True for images in self.images})

    def kinds_in(self, table):
        """For each kind of those in the table, as they stand by how many atoms they have, then as rows: its masks.

        The first mask is that of the least one.
        """
        kinds = []
        seen = {}
        for _, _, mask in self.in_order(table):
            if mask not in seen:
                kind = self.kind_of(mask)
                kinds.append(kind)
                for other in kind:
                    seen[other] = True
        return kinds

    def in_order(self, table):
        """How many atoms, their numbers and the mask of each in the table, by how many these are, then as rows."""
        rows = [(numbers_of(mask), mask) for mask in numbers_of(table)]
        return sorted([(len(numbers), numbers, mask) for numbers, mask in rows])

    def above(self, table):
        """The table of the masks that have all atoms of one in the table, and more."""
        for place, own in enumerate(self.owns):
            table |= (table ^ (table & own)) << (1 << place)
        higher = 0
        for place, own in enumerate(self.owns):
            higher |= (table ^ (table & own)) << (1 << place)
        return higher

    def beneath(self, table):
        """The table of the masks that have some of the atoms of one in the table, not all."""
        for place, own in enumerate(self.owns):
            table |= (table & own) >> (1 << place)
        lower = 0
        for place, own in enumerate(self.owns):
            lower |= (table & own) >> (1 << place)
        return lower
