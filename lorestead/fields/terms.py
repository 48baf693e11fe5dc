"""Notions and terms: the names of ties, and what is made of them by words."""

from lorestead.errors import NoNotions, NoTerm

WORDS = ("not", "both", "either", "turned", "chain", "some")
LETTERS = "abcdefghijklmnopqrstuvwxyz"
MOST_LETTERS = 8
MOST_NOTIONS = 3
MOST_PLACES = 2
MOST_TUPLES = 3


def is_number_in(thing, least, most):
    """Whether the thing is a whole number from the least to the most."""
    # In Python a truth is an int as well.
    if isinstance(thing, bool) or not isinstance(thing, int):
        return False
    return least <= thing <= most


def _is_name(thing):
    if not isinstance(thing, str) or not 1 <= len(thing) <= MOST_LETTERS:
        return False
    return all([letter in LETTERS for letter in thing]) and thing not in WORDS


def _is_notion(thing):
    if not isinstance(thing, tuple) or len(thing) != 2:
        return False
    name, places = thing
    return _is_name(name) and is_number_in(places, 1, MOST_PLACES)


def is_notions(thing):
    """Whether the thing is a tuple of one to three notions of unlike names."""
    if not isinstance(thing, tuple) or not 1 <= len(thing) <= MOST_NOTIONS:
        return False
    if not all([_is_notion(part) for part in thing]):
        return False
    return len({name for name, _ in thing}) == len(thing)


def require_notions(thing):
    """Raise NoNotions where the thing is none."""
    if not is_notions(thing):
        raise NoNotions("one to three pairs (name, places) of unlike names are due")


def _places_by_word(word, places):
    """The places of a term of this word and of terms of those places, 0 where there is none."""
    # The word may be anything, so it is only compared, never looked up by its hash.
    if word == "not" and len(places) == 1:
        return places[0]
    if word in ("both", "either") and len(places) == 2 and places[0] == places[1]:
        return places[0]
    if word == "turned" and places == [2]:
        return 2
    if word == "chain" and places == [2, 2]:
        return 2
    if word == "some" and places == [2]:
        return 1
    return 0


def _places_within(notions, thing, tuples):
    """The places of the thing as a term of at most so many tuples within one another, else 0."""
    if isinstance(thing, str):
        return sum([places for name, places in notions if name == thing])
    if not isinstance(thing, tuple) or tuples == 0 or len(thing) not in (2, 3):
        return 0
    places = [_places_within(notions, part, tuples - 1) for part in thing[1:]]
    return _places_by_word(thing[0], places)


def enter_term(names, found, thing, tuples=MOST_TUPLES):
    """The text of a term, "" of anything else; found gets the term and its parts by their texts, with their places.

    Names are told with their places; a term has at most so many tuples within one another.
    """
    if type(thing) is str:
        if thing not in names:
            return ""
        found[thing] = (thing, names[thing])
        return thing
    if type(thing) is not tuple or tuples == 0 or len(thing) not in (2, 3):
        return ""
    texts = [enter_term(names, found, part, tuples - 1) for part in thing[1:]]
    if "" in texts:
        return ""
    places = _places_by_word(thing[0], [found[text][1] for text in texts])
    if places == 0:
        return ""
    text = " ".join([thing[0], *texts])
    found[text] = (thing, places)
    return text


def term_places(notions, thing):
    """The places of a term of these notions, which are some, and 0 of anything else."""
    return _places_within(notions, thing, MOST_TUPLES)


def is_term(notions, thing):
    """Whether the thing is a term of the notions."""
    require_notions(notions)
    return term_places(notions, thing) > 0


def require_term(notions, thing):
    """Raise NoNotions or NoTerm where the one or the other is none."""
    if not is_term(notions, thing):
        raise NoTerm("a term of the notions is due")


def places_of(notions, term):
    """How many places the term has."""
    require_term(notions, term)
    return term_places(notions, term)


def text_of(term):
    """The text of what is known to be a term."""
    if isinstance(term, str):
        return term
    return " ".join([text_of(part) for part in term])


def parts_by_text(terms):
    """All parts of what are known to be terms, each once, by their texts."""
    found = {}
    left = list(terms)
    while left:
        term = left.pop()
        found[text_of(term)] = term
        if isinstance(term, tuple):
            left.extend(term[1:])
    return tuple([found[text] for text in sorted(found)])


def parts_of(notions, term):
    """The term and all terms in it, each once, by their texts."""
    require_term(notions, term)
    return parts_by_text((term,))


def term_text(notions, term):
    """The words and names of the term in order, one blank between."""
    require_term(notions, term)
    return text_of(term)
