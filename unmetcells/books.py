"""Books: finite tables of the ways in which calls may be answered."""

from unmetcells.errors import BadBook
from unmetcells.kinds import is_from, is_row, is_sequence

ANSWERS = (0, 1, 2)
MOST_STATES = 6
MOST_CALLS = 4
MOST_WAYS = 432


def is_call(calls, thing):
    """Tell whether the thing is one of so many calls."""
    return is_from(thing, 0, calls - 1)


def is_answer(thing):
    """Tell whether the thing is an answer."""
    return is_from(thing, 0, 2)


def is_way(states, calls, thing):
    """Tell whether the thing is a way in the range of so many states and calls."""
    if not is_row(thing, 4):
        return False
    state, call, answer, after = thing
    return (is_from(state, 0, states - 1) and is_call(calls, call)
            and is_answer(answer) and is_from(after, 0, states - 1))


def checked_ways(states, calls, ways):
    """Return the ways of a book as an ascending tuple, or raise BadBook."""
    if not is_from(states, 1, MOST_STATES):
        raise BadBook("states")
    if not is_from(calls, 1, MOST_CALLS):
        raise BadBook("calls")
    if not is_sequence(ways) or len(ways) > MOST_WAYS:
        raise BadBook("way")
    for way in ways:
        if not is_way(states, calls, way):
            raise BadBook("way")
    rows = sorted([tuple(way) for way in ways])
    if len(set(rows)) < len(rows):
        raise BadBook("double")
    if len({(row[0], row[1]) for row in rows}) < states * calls:
        raise BadBook("lacking")
    return tuple(rows)


def ends_table(ways):
    """Return, for each (state, call, answer) of some way, the states that it leads to, ascending."""
    table = {}
    for state, call, answer, after in ways:
        table.setdefault((state, call, answer), []).append(after)
    return {key: tuple(table[key]) for key in table}


class Book:
    """A table of ways (state, call, answer, next); the start is state 0."""

    def __init__(self, states, calls, ways):
        self.ways = checked_ways(states, calls, ways)
        self.states = states
        self.calls = calls
        self._borne = tuple(sorted({way[2] for way in self.ways}))
        # Searches ask for ends again and again; a table spares them the way through all ways.
        self._ends = ends_table(self.ways)

    @property
    def answers(self):
        """The answers that some way bears, ascending."""
        return self._borne

    def __iter__(self):
        return iter(self.ways)

    def __len__(self):
        return len(self.ways)

    def __contains__(self, way):
        # 1.0 and True are equal to 1 but are no state, so == alone would let them in.
        return is_way(self.states, self.calls, way) and tuple(way) in self.ways

    def __eq__(self, other):
        return (isinstance(other, Book) and self.states == other.states
                and self.calls == other.calls and self.ways == other.ways)

    def steps_from(self, state, call):
        """Return the couples (answer, next) of the ways of a state and a call, ascending."""
        return tuple([(answer, after) for answer in ANSWERS
                      for after in self._ends.get((state, call, answer), ())])

    def ends_from(self, standing, call, answer):
        """Return the standing that the call with this answer leads to; nothing is checked."""
        found = set()
        for state in standing:
            for after in self._ends.get((state, call, answer), ()):
                found.add(after)
        return tuple(sorted(found))

    def with_way(self, way):
        """Return a new book with this way more."""
        if not is_way(self.states, self.calls, way):
            raise BadBook("way")
        if way in self:
            raise BadBook("double")
        return Book(self.states, self.calls, self.ways + (tuple(way),))

    def without_way(self, way):
        """Return a new book without this way."""
        if way not in self:
            raise BadBook("way")
        gone = tuple(way)
        return Book(self.states, self.calls, [row for row in self.ways if row != gone])
