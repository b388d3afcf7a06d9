"""What counts as a whole number and as a sequence, in every module of the package."""


def is_whole(thing):
    """Tell whether the thing is a whole number; True and False are none."""
    return isinstance(thing, int) and not isinstance(thing, bool)


def is_from(thing, low, high):
    """Tell whether the thing is a whole number from `low` to `high`."""
    return is_whole(thing) and low <= thing <= high


def is_sequence(thing):
    """Tell whether the thing is a list or a tuple."""
    return isinstance(thing, (list, tuple))


def is_row(thing, length):
    """Tell whether the thing is a sequence of so many items."""
    return is_sequence(thing) and len(thing) == length
