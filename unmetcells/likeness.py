"""Alike standings and states, counts of trails, and merged books."""

from unmetcells.books import Book
from unmetcells.errors import BadLength
from unmetcells.kinds import is_from
from unmetcells.standings import check_standing, couples_from, least_parting

MOST_LENGTH = 64


def parted_by(book, one, other):
    """Return the least trail that follows just one of two standings, or None if they are alike."""
    ahead = check_standing(book, one)
    behind = check_standing(book, other)
    return least_parting(book, ahead, book, behind, True)


def is_looser_state(book, loose, state):
    """Tell whether every trail that follows `state` follows `loose`, too."""
    for _, standing in couples_from(book, book, state, (loose,)):
        if standing == ():
            return False
    return True


def looser_states(book):
    """Return, for each state, the ascending tuple of the states that are looser."""
    table = []
    for state in range(book.states):
        table.append(tuple([loose for loose in range(book.states) if is_looser_state(book, loose, state)]))
    return tuple(table)


def alike_states(book):
    """Return, for each state, the least state that is alike."""
    looser = looser_states(book)
    alike = []
    for state in range(book.states):
        alike.append(min([twin for twin in looser[state] if state in looser[twin]]))
    return tuple(alike)


def count_trails(book, standing, length):
    """Return how many trails with so many couples follow the standing."""
    checked = check_standing(book, standing)
    if not is_from(length, 0, MOST_LENGTH):
        raise BadLength()
    if checked == ():
        return 0
    counts = {checked: 1}
    # The same standings come again at each length, so what they lead to is looked for once.
    leads = {}
    for _ in range(length):
        longer = {}
        # `longer` gets the name `counts` below, so the loop walks a copy and nothing that is changed in it.
        for before in list(counts):
            if before not in leads:
                leads[before] = standings_onward(book, before)
            for after in leads[before]:
                longer[after] = longer.get(after, 0) + counts[before]
        counts = longer
    return sum(counts.values())


def standings_onward(book, standing):
    """Return the standing other than () that each couple (call, answer) leads to; one may come several times."""
    found = []
    for call in range(book.calls):
        for answer in book.answers:
            led = book.ends_from(standing, call, answer)
            if led != ():
                found.append(led)
    return found


def reached_states(book):
    """Return the states to which walks from the start lead."""
    reached = [0]
    at = 0
    while at < len(reached):
        for way in book.ways:
            if way[0] == reached[at] and way[3] not in reached:
                reached.append(way[3])
        at += 1
    return reached


def merged_states(book):
    """Return, for each state, its number in the merged book, or None if it is not reached."""
    alike = alike_states(book)
    reached = reached_states(book)
    numbers = {}
    merged = []
    for state in range(book.states):
        if state in reached:
            merged.append(numbers.setdefault(alike[state], len(numbers)))
        else:
            merged.append(None)
    return tuple(merged)


def merged_book(book):
    """Return the book in which each lot of alike reached states is one state."""
    merged = merged_states(book)
    ways = {}
    for state, call, answer, after in book.ways:
        if merged[state] is not None:
            ways[(merged[state], call, answer, merged[after])] = True
    states = max([number for number in merged if number is not None]) + 1
    return Book(states, book.calls, list(ways))
