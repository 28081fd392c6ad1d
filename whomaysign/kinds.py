"""What several modules ask of any value before they take it."""


def is_integer(thing):
    """Whether any value is an integer."""
    # Python takes True and False for integers, the document does not.
    return isinstance(thing, int) and not isinstance(thing, bool)


def is_whole(thing, least, most=None):
    """Whether any value is an integer from least on, and up to most, if there is one."""
    return is_integer(thing) and least <= thing and (most is None or thing <= most)


def is_told(thing, word, many):
    """Whether any value is a tuple of so many things that begins with this word."""
    return isinstance(thing, tuple) and len(thing) == many and isinstance(thing[0], str) and thing[0] == word


def ascends(things):
    """Whether each of a list or tuple of like things is below the one behind it."""
    return all([things[at] < things[at + 1] for at in range(len(things) - 1)])


def choices(things):
    """All tuples of some of the things, in their order, each once."""
    chosen = [()]
    for thing in things:
        chosen = chosen + [some + (thing,) for some in chosen]
    return chosen
