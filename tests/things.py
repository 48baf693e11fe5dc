"""Fields that many tests ask about, and things of any kind."""

import copy

NOTIONS = (("likes", 2), ("kind", 1))
CHAIN = ("chain", "likes", "likes")
FIELD = (NOTIONS, (CHAIN, "kind"), 2)
# Nine shown atoms, and three unknowns.
WIDE = ((("likes", 2),), ("likes",), 3)
# Three unknowns that only terms of one place speak of.
FLAT = ((("wise", 1), ("kind", 1)), ("wise", "kind", ("not", "kind")), 3)
# One unknown.
LONE = (NOTIONS, (("not", "likes"), "kind"), 1)
FIELDS = (FIELD, WIDE, FLAT, LONE)

# Three unknowns and terms within terms: 36 atoms.
DEEP = (NOTIONS, (("some", ("chain", "likes", ("not", "likes"))), "kind", ("not", "kind")), 3)
# Each word, two unknowns.
WORDY = (
    (("wise", 1), ("near", 2)),
    (("either", "wise", ("some", "near")), ("both", "wise", ("not", "wise")), ("turned", ("not", "near"))), 2,
)
# Two notions of two places: of three things more than twelve ties could be.
BROAD = ((("near", 2), ("likes", 2), ("kind", 1)), ("kind", ("chain", "near", ("turned", "likes"))), 2)
MORE_FIELDS = FIELDS + (DEEP, WORDY, BROAD)

BIG = 10 ** 40 - 1
PLAIN = (0, 1, 2, 3, -1, BIG, -BIG, True, False, None, "", "a", "likes", "not", "both", "Kind", "likes likes", "~ {}")


def nested(kind, core):
    """The core within twelve of a kind."""
    for _ in range(12):
        if kind == "list":
            core = [core]
        elif kind == "dict":
            core = {"not": core}
        elif kind == "pair":
            core = ("both", core, core)
        else:
            core = ("not", core)
    return core


def any_things():
    """Things of every kind that may be handed in, made anew at each call."""
    things = list(PLAIN)
    things += [(), [], {}, (0,), [0], {0: 0}, (True,), (None,), ("likes",), ["likes"], {"likes": 2}]
    things += [("not", "likes"), ["not", "likes"], ("not",), ("not", []), ([], "likes"), ({}, {}), ("both", {}, [])]
    things += [("likes", (0, 1)), ("likes", [0, 1]), ["likes", (0, 1)], ("likes", (True, False)), ("kind", (True,))]
    things += [(("likes", (0, 1)),), [("likes", (0, 1))], (("kind", (0,)), ("kind", (1,))), ((), ()), ([], {}, 2)]
    things += [(0, 1), (1, 0), (0, 1, 2), [0, 1], (False, True), (0, BIG), (0, -1), (0, None), ((0,), (1,)), ({}, [])]
    things += [NOTIONS, list(NOTIONS), FIELD, list(FIELD), dict(NOTIONS), {(1, "a"): [None, (True, {})], None: ()}]
    for kind in ("list", "dict", "pair", "tuple"):
        things += [nested(kind, core) for core in (BIG, True, "likes", None)]
    return things


def spoilt(thing, spoilers):
    """The thing with each part in it, itself too, exchanged for each spoiler, and with parts left out and doubled."""
    for spoiler in spoilers:
        yield copy.deepcopy(spoiler)
    if not isinstance(thing, tuple):
        return
    yield list(thing)
    for at, part in enumerate(thing):
        yield thing[:at] + thing[at + 1:]
        yield thing[:at] + (part, part) + thing[at + 1:]
        for other in spoilt(part, spoilers):
            yield thing[:at] + (other,) + thing[at + 1:]


def told_of(call, *parts, **more):
    """What the call tells, or the class of what it raises, after a look that nothing handed in was changed."""
    before = copy.deepcopy((parts, more))
    try:
        told = call(*parts, **more)
    except Exception as refusal:
        told = refusal.__class__
    if repr((parts, more)) != repr(before):
        raise AssertionError("what was handed in was changed")
    return told


def check_refusals(test, call, parts, names=()):
    """Look that each part that isn't right is refused by its own error, and that the first such goes first.

    Parts are (right, error, accepts); those of the names, the last ones, are handed in by name.
    """
    split = len(parts) - len(names)

    def asked(given):
        return told_of(call, *given[:split], **dict(zip(names, given[split:])))

    rights = [right for right, _, _ in parts]
    first = asked(rights)
    test.assertFalse(isinstance(first, type) and issubclass(first, Exception), first)
    test.assertEqual(asked(rights), first)
    for at, (_, error, accepts) in enumerate(parts):
        if error is None:
            continue
        wrongs = [thing for thing in any_things() if not accepts(thing)]
        test.assertGreater(len(wrongs), 40)
        for wrong in wrongs:
            test.assertIs(asked(rights[:at] + [wrong] + rights[at + 1:]), error, wrong)
            test.assertIs(asked(rights[:at] + [wrong] * (len(parts) - at)), error, wrong)


def check_anything(test, call, *parts, **more):
    """Look that the call tells True or False of whatever it is asked of last, and no error."""
    for thing in any_things():
        test.assertIn(repr(told_of(call, *parts, thing, **more)), ("True", "False"), thing)


class Watched(list):
    """A list that keeps, too, what is told each time that something is put to it."""

    def __init__(self, tell):
        super().__init__()
        self.tell = tell
        self.told = []

    def append(self, thing):
        super().append(thing)
        self.told.append(self.tell())
