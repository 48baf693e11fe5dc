"""Notions and terms: the names of ties, and what is made of them by words."""

from lorestead.errors import NoNotions, NoTerm

WORDS = ("not", "both", "either", "turned", "chain", "some")
MOST_LETTERS = 8
MOST_NOTIONS = 3
MOST_PLACES = 2
MOST_TUPLES = 3


def is_number_in(thing, least, most):
    """Whether the thing is a whole number from the least to the most."""
    # In Python a truth is an int as well, but not of that very kind.
    return type(thing) is int and least <= thing <= most


def _is_name(thing):
    if type(thing) is not str or len(thing) > MOST_LETTERS or thing in WORDS:
        return False
    return thing.isascii() and thing.isalpha() and thing.islower()


def is_notions(thing):
    """Whether the thing is a tuple of one to three notions of unlike names."""
    if type(thing) is not tuple or not 1 <= len(thing) <= MOST_NOTIONS:
        return False
    names = {}
    for part in thing:
        if type(part) is not tuple or len(part) != 2 or not _is_name(part[0]):
            return False
        if not is_number_in(part[1], 1, MOST_PLACES):
            return False
        names[part[0]] = True
    return len(names) == len(thing)


def _places_of_one(word, places):
    """The places of a term of this word and of a term of so many places, 0 where there is none."""
    # The word may be anything, so it is only compared, never looked up by its hash.
    if word == "not" or word == "turned" and places == 2:
        return places
    return 1 if word == "some" and places == 2 else 0


def _places_of_two(word, places, others):
    """The places of a term of this word and of two terms of so many places, 0 where there is none."""
    if places != others:
        return 0
    if word == "both" or word == "either" or word == "chain" and places == 2:
        return places
    return 0


def enter_term(names, found, thing, tuples=MOST_TUPLES):
    """The text of a term, "" of anything else; found gets the term and its parts by their texts, with their places.

    Names are told with their places; a term has at most so many tuples within one another.
    """
    if type(thing) is str:
        if thing not in names:
            return ""
        found[thing] = (thing, names[thing])
        return thing
    if type(thing) is not tuple or tuples == 0 or len(thing) not in (2, 3):
        return ""
    text = enter_term(names, found, thing[1], tuples - 1)
    if text == "":
        return ""
    if len(thing) == 2:
        places = _places_of_one(thing[0], found[text][1])
    else:
        behind = enter_term(names, found, thing[2], tuples - 1)
        if behind == "":
            return ""
        places = _places_of_two(thing[0], found[text][1], found[behind][1])
        text = f"{text} {behind}"
    if places == 0:
        return ""
    text = f"{thing[0]} {text}"
    found[text] = (thing, places)
    return text


def parts_within(notions, thing):
    """The text of a term of what are known to be notions, "" of anything else, and what enter_term found."""
    found = {}
    text = enter_term({name: places for name, places in notions}, found, thing)
    return text, found


def is_term(notions, thing):
    """Whether the thing is a term of the notions."""
    _require_notions(notions)
    return parts_within(notions, thing)[0] != ""


def _read(notions, term):
    """The text and the parts of the term; NoNotions or NoTerm where the one or the other is none."""
    _require_notions(notions)
    text, found = parts_within(notions, term)
    if text == "":
        raise NoTerm("a term of the notions is due")
    return text, found


def _require_notions(thing):
    if not is_notions(thing):
        raise NoNotions("one to three pairs (name, places) of unlike names are due")


def places_of(notions, term):
    """How many places the term has."""
    text, found = _read(notions, term)
    return found[text][1]


def terms_by_text(found):
    """The terms of what enter_term found, by their texts."""
    return tuple([found[text][0] for text in sorted(found)])


def parts_of(notions, term):
    """The term and all terms in it, each once, by their texts."""
    _, found = _read(notions, term)
    return terms_by_text(found)


def term_text(notions, term):
    """The words and names of the term in order, one blank between."""
    text, _ = _read(notions, term)
    return text
