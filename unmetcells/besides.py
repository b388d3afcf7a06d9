"""Two books side by side as one book."""

from unmetcells.books import MOST_CALLS, MOST_STATES, Book
from unmetcells.errors import TooMany
from unmetcells.histories import check_history


def beside(one, other):
    """Return the book in which each call concerns one of both books alone."""
    states = one.states * other.states
    calls = one.calls + other.calls
    if states > MOST_STATES:
        raise TooMany(MOST_STATES)
    if calls > MOST_CALLS:
        raise TooMany(MOST_CALLS)
    wide = other.states
    ways = []
    for state, call, answer, after in one.ways:
        for rest in range(other.states):
            ways.append((state * wide + rest, call, answer, after * wide + rest))
    for state, call, answer, after in other.ways:
        for rest in range(one.states):
            ways.append((rest * wide + state, one.calls + call, answer, rest * wide + after))
    return Book(states, calls, ways)


def parted_history(one, other, history):
    """Return the entries that concern `one` and those that concern `other`, with their own calls."""
    entries = check_history(beside(one, other), history)
    ahead = [entry for entry in entries if entry[1] < one.calls]
    behind = [(hand, call - one.calls, answer) for hand, call, answer in entries if call >= one.calls]
    return (tuple(ahead), tuple(behind))
