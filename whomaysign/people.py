"""People, and lots of them."""

from whomaysign.errors import BadLot, BadPeople
from whomaysign.kinds import ascends, choices

MOST_PEOPLE = 6
MOST_LETTERS = 8


def need_people(thing):
    """Itself, if it is people."""
    if not isinstance(thing, tuple) or not 1 <= len(thing) <= MOST_PEOPLE:
        raise BadPeople(thing)
    # Only words are sure to be comparable, so their order is asked last.
    if not all([_is_word(word) for word in thing]) or not ascends(thing):
        raise BadPeople(thing)
    return thing


def need_lot(people, thing):
    """Itself, if it is a lot of the people."""
    if not is_lot(people, thing):
        raise BadLot(thing)
    return thing


def is_person(people, thing):
    """Whether any value is one of the people."""
    return isinstance(thing, str) and thing in people


def is_lot(people, thing):
    """Whether any value is a lot of the people."""
    if not isinstance(thing, tuple):
        return False
    return all([is_person(people, person) for person in thing]) and ascends(thing)


def all_lots(people):
    """The ascending tuple of all lots of the people."""
    return tuple(sorted(choices(need_people(people))))


def _is_word(thing):
    """Whether any value is a text of 1 to 8 letters from a to z."""
    if not isinstance(thing, str) or not 1 <= len(thing) <= MOST_LETTERS:
        return False
    return all(["a" <= letter <= "z" for letter in thing])
