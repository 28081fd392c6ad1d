"""Who signs, and what covers cost, found by other ways than those of hands and covers."""

from whomaysign.errors import BadNumber
from whomaysign.kinds import is_whole
from whomaysign.people import need_lot

MOST_DAYS = 40


def signs_too(book, lot, number):
    """Whether a lot signs a clause, found by the slots that are filled as one person comes behind another."""
    need_lot(book.people, lot)
    slots = book[number].slots
    filled = {(): True}
    for person in lot:
        filled = _filled_with(filled, _slots_for(_hands(book, person), slots))
    return tuple(range(len(slots))) in filled


def cost_too(clause, days):
    """The least cost of a cover, None if there is none, found by how many windows of each length it has."""
    if not is_whole(days, 0, MOST_DAYS):
        raise BadNumber(days)
    # As windows may start anywhere, all that counts is how many days they hold one behind another.
    covers = [(0, 0)]
    for length, worth in clause.sums:
        covers = [
            (held + many * length, cost + many * worth)
            for held, cost in covers for many in range(_enough_windows(days - held, length) + 1)]
    return min([cost for held, cost in covers if held >= days], default=None)


def _hands(book, person):
    """All those whose hands a person has: the own one, and each that is lent on to the person."""
    owners = [person]
    asked = 0
    while asked < len(owners):
        holder = owners[asked]
        owners = owners + [one for one, other in book.lent if other == holder and one not in owners]
        asked += 1
    return owners


def _slots_for(hands, slots):
    """The numbers of the slots that can be filled by one of the hands."""
    return [number for number, lot in enumerate(slots) if any([owner in lot for owner in hands])]


def _filled_with(filled, numbers):
    """What slots can be filled at once when one comes who may fill one of so numbered slots, or none."""
    more = {slots: True for slots in filled}
    for slots in filled:
        for number in numbers:
            if number not in slots:
                more[tuple(sorted(slots + (number,)))] = True
    return more


def _enough_windows(days, length):
    """How many windows of a length hold so many days at least."""
    if days <= 0:
        return 0
    return (days + length - 1) // length
