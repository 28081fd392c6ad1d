"""The cheapest windows that cover so many days, and so the most that a clause pays in them."""

from whomaysign.errors import BadNumber
from whomaysign.kinds import is_integer, is_whole

MOST_DAYS = 1000


def need_days(thing):
    """Itself, if it is a number of days that are told of."""
    if not is_whole(thing, 0, MOST_DAYS):
        raise BadNumber(thing)
    return thing


def least_cost(clause, days):
    """The least cost of a cover of so many days, or None if there is none."""
    costs = least_costs(clause, days)
    if costs is None:
        return None
    return costs[days]


def cover(clause, days):
    """A cover of so many days with the least cost, or None if there is none."""
    costs = least_costs(clause, days)
    if costs is None:
        return None
    windows = []
    left = days
    while left > 0:
        length = _last_length(clause, costs, left)
        left = max(0, left - length)
        windows.append((left, length))
    return tuple(sorted(windows))


def is_cover(clause, days, thing):
    """Whether any value is a cover of so many days."""
    need_days(days)
    if not isinstance(thing, tuple) or not all([_is_window(clause, window) for window in thing]):
        return False
    # Unlike other tuples that ascend, a cover may have alike windows.
    return thing == tuple(sorted(thing)) and _held_days(thing) >= days


def cover_cost(clause, windows):
    """What the windows of a cover cost."""
    worths = dict(clause.sums)
    return sum([worths[length] for _, length in windows])


def spread(clause, days):
    """An amount for each day, that together keep all sums and reach the least cost, or None if there is none."""
    costs = least_costs(clause, days)
    if costs is None:
        return None
    # A cover with one window more covers the days of the window more, so over these no costs rise above its sum.
    return tuple([costs[day + 1] - costs[day] for day in range(days)])


def least_costs(clause, days):
    """The least costs of covers of 0 days, of 1 day, and so on up to so many, or None if there is none of these."""
    need_days(days)
    if days > 0 and not clause.sums:
        return None
    costs = [0]
    for many in range(1, days + 1):
        costs.append(min([_cost_with(costs, many, length, worth) for length, worth in clause.sums]))
    return costs


def _cost_with(costs, days, length, worth):
    """The least cost of a cover of so many days whose last window ends with them, or holds them all."""
    return costs[max(0, days - length)] + worth


def _last_length(clause, costs, days):
    """The days of a last window with which a cover of so many days has the least cost."""
    lengths = [
        length for length, worth in clause.sums if _cost_with(costs, days, length, worth) == costs[days]]
    return lengths[0]


def _is_window(clause, thing):
    """Whether any value is a window of a clause."""
    if not isinstance(thing, tuple) or len(thing) != 2:
        return False
    start, length = thing
    return is_whole(start, 0) and is_integer(length) and length in [days for days, _ in clause.sums]


def _held_days(windows):
    """How many days from day 0 on, without a gap, are in windows that ascend."""
    held = 0
    for start, length in windows:
        if start <= held:
            held = max(held, start + length)
    return held
