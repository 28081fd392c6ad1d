"""Whose hands fill the slots of a clause, and who signs it by them."""

from whomaysign.kinds import ascends, choices, is_whole
from whomaysign.people import all_lots, is_person, need_lot


def fillers(book, number):
    """For each slot of a clause, the lot of all people who may fill it."""
    return tuple([_holders(book, lot) for lot in book[number].slots])


def signs(book, lot, number):
    """Whether a lot signs a clause."""
    return filling(book, lot, number) is not None


def filling(book, lot, number):
    """A filling of a clause by a lot, or None if there is none."""
    return _first_filling(_fillers_of(book, lot, number), ())


def short(book, lot, number):
    """A short of a clause by a lot, or None if there is none."""
    who = _fillers_of(book, lot, number)
    for slots in choices(list(range(len(who)))):
        if _are_short(who, slots):
            return slots
    return None


def is_filling(book, lot, number, thing):
    """Whether any value is a filling of a clause by a lot."""
    who = _fillers_of(book, lot, number)
    if not isinstance(thing, tuple) or len(thing) != len(who):
        return False
    if not all([is_person(people, person) for person, people in zip(thing, who)]):
        return False
    return len(set(thing)) == len(thing)


def is_short(book, lot, number, thing):
    """Whether any value is a short of a clause by a lot."""
    who = _fillers_of(book, lot, number)
    if not isinstance(thing, tuple) or not all([is_whole(slot, 0, len(who) - 1) for slot in thing]):
        return False
    return ascends(thing) and _are_short(who, thing)


def signed(book, lot):
    """The numbers of the clauses that a lot signs."""
    return [number for number in range(len(book)) if signs(book, lot, number)]


def signed_by_each(book):
    """For each lot of the people the numbers of the clauses that it signs."""
    # Whom hands are lent on to is the same for all lots, and slow to tell.
    slots = list(enumerate([fillers(book, number) for number in range(len(book))]))
    return {
        lot: [number for number, who in slots if _first_filling(_within(lot, who), ()) is not None]
        for lot in all_lots(book.people)}


def _holders(book, lot):
    """The people who hold the hand of somebody of a lot: their own, or one that is lent on to them."""
    holders = {person: True for person in lot}
    # A hand that is lent on comes to each person, and so by fewer pairs than there are people.
    for _ in book.people:
        for one, other in book.lent:
            if one in holders:
                holders[other] = True
    return tuple([person for person in book.people if person in holders])


def _fillers_of(book, lot, number):
    """For each slot of a clause, the people of a lot who may fill it."""
    need_lot(book.people, lot)
    return _within(lot, fillers(book, number))


def _within(lot, who):
    """Of the people for each slot those who are of a lot."""
    return [[person for person in people if person in lot] for people in who]


def _first_filling(who, chosen):
    """The first filling that begins with the people who are chosen, or None if there is none."""
    if len(chosen) == len(who):
        return chosen
    for person in who[len(chosen)]:
        if person not in chosen:
            whole = _first_filling(who, chosen + (person,))
            if whole is not None:
                return whole
    return None


def _are_short(who, slots):
    """Whether the people who may fill some of the slots are fewer than the slots."""
    return len({person for slot in slots for person in who[slot]}) < len(slots)
