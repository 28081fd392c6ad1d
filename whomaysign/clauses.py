"""A clause: who must sign together, and for how much."""

from whomaysign.errors import BadClause, BadNumber
from whomaysign.kinds import ascends, is_whole
from whomaysign.people import is_lot, need_people

MOST_SLOTS = 4
MOST_SUMS = 3
MOST_DAYS = 7


class Clause:
    """Slots that different people fill, a cap on each payment, and sums that so many days may reach."""

    def __init__(self, people, slots, cap=None, sums=()):
        need_people(people)
        if not _are_slots(people, slots):
            raise BadClause("slots")
        if not (cap is None or is_whole(cap, 1)):
            raise BadClause("cap")
        if not _are_sums(sums):
            raise BadClause("sums")
        self.people = people
        self.slots = slots
        self.cap = cap
        self.sums = sums

    def __eq__(self, other):
        return (isinstance(other, Clause) and self.people == other.people and self.slots == other.slots
                and self.cap == other.cap and self.sums == other.sums)

    def changed(self, field, value):
        """The clause with another value of the field "slots", "cap" or "sums"."""
        worths = {"slots": self.slots, "cap": self.cap, "sums": self.sums}
        if not isinstance(field, str) or field not in worths:
            raise BadNumber(field)
        worths[field] = value
        return Clause(self.people, worths["slots"], worths["cap"], worths["sums"])


def _are_slots(people, thing):
    """Whether any value is the slots of a clause with these people."""
    if not isinstance(thing, tuple) or not 1 <= len(thing) <= MOST_SLOTS:
        return False
    return all([is_lot(people, lot) for lot in thing])


def _are_sums(thing):
    """Whether any value is the sums of a clause."""
    if not isinstance(thing, tuple) or len(thing) > MOST_SUMS:
        return False
    # Pairs with different days ascend just as their days do.
    return all([_is_sum(pair) for pair in thing]) and ascends([days for days, _ in thing])


def _is_sum(thing):
    """Whether any value is a pair of a number of days and a sum."""
    if not isinstance(thing, tuple) or len(thing) != 2:
        return False
    return is_whole(thing[0], 1, MOST_DAYS) and is_whole(thing[1], 1)
