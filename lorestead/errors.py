"""What the program refuses: one class for each kind of refusal."""


class LoreError(ValueError):
    """What stands above all refusals but NoNumber."""


class NoNotions(LoreError):
    """No notions."""


class NoTerm(LoreError):
    """No term of the notions."""


class NoField(LoreError):
    """No field."""


class NoAtom(LoreError):
    """No atom of the field."""


class NoRow(LoreError):
    """No row of the field's atoms."""


class NoRenaming(LoreError):
    """No renaming of the field's unknowns."""


class NoWorld(LoreError):
    """No world of the field."""


class NoWay(LoreError):
    """No way of the field in the world."""


class NoRule(LoreError):
    """No rule of the field, or none that is asked for here."""


class NoSituation(LoreError):
    """No situation of the field, or none that is asked for here."""


class NoTheory(LoreError):
    """No theory."""


class NoWalk(LoreError):
    """No walk to the rule."""


class NoMost(LoreError):
    """No whole number from 1 to 3."""


class TooWide(LoreError):
    """More ties could be than are gone through."""


class Unlike(LoreError):
    """Two theories of two fields."""


class NoDeed(LoreError):
    """No deed of a house, or none that could be taken back."""


class NoText(LoreError):
    """No text as it would be written."""


class NoLine(LoreError):
    """No line that a desk knows."""


class NoGround(LoreError):
    """A ground with a rule that the theory hasn't, or that isn't shown where it must be."""

    def __init__(self, number):
        super().__init__(f"the theory has no rule {number} of the ground")
        self.number = number


class Broken(LoreError):
    """A rule that a world of the house breaks."""

    def __init__(self, number):
        super().__init__(f"world {number} breaks the rule")
        self.number = number


class Breaks(LoreError):
    """A world that breaks a rule of the house."""

    def __init__(self, number):
        super().__init__(f"the world breaks rule {number}")
        self.number = number


class NoNumber(LookupError):
    """A number that there isn't."""

    def __init__(self, number):
        super().__init__(f"there is no number {number}")
        self.number = number
