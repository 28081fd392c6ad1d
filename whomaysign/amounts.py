"""What several amounts come to, where None is an amount without a bound."""


def greatest(amounts):
    """The greatest one, 0 if there is none."""
    if None in amounts:
        return None
    return max(amounts, default=0)


def together(amounts):
    """Their total."""
    if None in amounts:
        return None
    return sum(amounts)


def reaches(amount, least):
    """Whether an amount is as much at least."""
    return amount is None or amount >= least
