"""Histories: rows of entries (hand, call, answer)."""

from unmetcells.books import is_answer, is_call
from unmetcells.errors import BadHistory
from unmetcells.kinds import is_from, is_row, is_sequence, is_whole

MOST_HAND = 9
MOST_ENTRIES = 400


def is_entry(book, thing):
    """Tell whether the thing is an entry for the book."""
    return (is_row(thing, 3) and is_from(thing[0], 0, MOST_HAND)
            and is_call(book.calls, thing[1]) and is_answer(thing[2]))


def check_history(book, history):
    """Return the history as a tuple of tuples, or raise BadHistory."""
    if not is_sequence(history):
        raise BadHistory(0)
    if len(history) > MOST_ENTRIES:
        raise BadHistory(len(history))
    for index, entry in enumerate(history):
        if not is_entry(book, entry):
            raise BadHistory(index)
    return tuple([tuple(entry) for entry in history])


def calls_of(history):
    """Return the couples (call, answer) of the entries, in order."""
    return tuple([(entry[1], entry[2]) for entry in history])


def asks_made(history):
    """Return the couples (hand, call) of the entries, in order."""
    return tuple([(entry[0], entry[1]) for entry in history])


def hands_of(history):
    """Return the hands that have entries, ascending, each once."""
    return tuple(sorted({entry[0] for entry in history}))


def part_of(history, hand):
    """Return the entries of this hand, in order."""
    if not is_whole(hand):
        return ()
    return tuple([tuple(entry) for entry in history if entry[0] == hand])
