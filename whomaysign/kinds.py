"""What several modules ask of any value before they take it."""


def is_whole(thing, least, most=None):
    """Whether any value is an integer from least on, and up to most, if there is one."""
    # Python takes True and False for integers, the document does not.
    if not isinstance(thing, int) or isinstance(thing, bool):
        return False
    return least <= thing and (most is None or thing <= most)


def ascends(things):
    """Whether each of a list or tuple of like things is below the one behind it."""
    return all([things[at] < things[at + 1] for at in range(len(things) - 1)])
