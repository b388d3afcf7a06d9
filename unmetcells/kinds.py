"""What counts as a whole number and as a sequence, and other small things that many modules of the package need."""


def is_whole(thing):
    """Tell whether the thing is a whole number; True and False are none."""
    return isinstance(thing, int) and not isinstance(thing, bool)


def is_from(thing, low, high):
    """Tell whether the thing is a whole number from `low` to `high`."""
    return is_whole(thing) and low <= thing <= high


def is_sequence(thing):
    """Tell whether the thing is a list or a tuple."""
    return isinstance(thing, (list, tuple))


def is_row(thing, length):
    """Tell whether the thing is a sequence of so many items."""
    return is_sequence(thing) and len(thing) == length


def word_of(thing):
    """Return the string that the thing, if it is a sequence, begins with, or None."""
    if not is_sequence(thing) or len(thing) == 0 or not isinstance(thing[0], str):
        return None
    return thing[0]


def as_tuples(thing):
    """Return the thing with tuples in the place of all sequences, through and through."""
    if not is_sequence(thing):
        return thing
    return tuple([as_tuples(item) for item in thing])


def chosen_rows(things):
    """Return all rows of some of these ascending things: the shorter rows first, then ascending."""
    rows = [()]
    for thing in things:
        rows = rows + [row + (thing,) for row in rows]
    return sorted(rows, key=lambda row: (len(row), row))
