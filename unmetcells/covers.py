"""Looser books, and covers that show that a book is looser."""

from unmetcells.errors import BadCover, NotLooser, UnlikeCalls
from unmetcells.kinds import is_from, is_row, is_sequence
from unmetcells.standings import START, couples_from, has_lesser, is_standing, least_parting

MOST_COVER = 400


def check_calls(one, other):
    """Raise UnlikeCalls if two books, or a book and a program, have not equally many calls."""
    if one.calls != other.calls:
        raise UnlikeCalls()


def looser_fault(one, other):
    """Return None if `other` is looser than `one`, else the least trail that only `one` lets."""
    check_calls(one, other)
    return least_parting(one, START, other, START, False)


def check_cover(one, other, cover):
    """Return the cover as a tuple of tuples, or raise BadCover."""
    if not is_sequence(cover):
        raise BadCover(0)
    if len(cover) > MOST_COVER:
        raise BadCover(len(cover))
    for index, couple in enumerate(cover):
        if not is_row(couple, 2) or not is_from(couple[0], 0, one.states - 1):
            raise BadCover(index)
        if not is_standing(other, couple[1]):
            raise BadCover(index)
    return tuple([(state, tuple(standing)) for state, standing in cover])


def cover_fault(one, other, cover):
    """Return None if the cover holds, else the first fault."""
    check_calls(one, other)
    couples = check_cover(one, other, cover)
    if (0, START) not in couples:
        return ("start",)
    table = lesser_table(couples)
    for index, (state, standing) in enumerate(couples):
        if standing == ():
            return ("bare", index)
        way = uncovered_way(one, other, table, state, standing)
        if way is not None:
            return ("way", index, way)
    return None


def lesser_table(couples):
    """Return, for each state of the couples, a dict whose keys are the standings beside it."""
    table = {}
    for state, standing in couples:
        if state not in table:
            table[state] = {}
        table[state][standing] = True
    return table


def uncovered_way(one, other, table, state, standing):
    """Return the first way of `one` at the state that leads to no couple of the table, or None."""
    for way in one.ways:
        if way[0] == state:
            led = other.ends_from(standing, way[1], way[2])
            if not has_lesser(table.get(way[3], {}), led):
                return way
    return None


def cover_of(one, other):
    """Return the cover of all couples that one trail leads to, ascending."""
    trail = looser_fault(one, other)
    if trail is not None:
        raise NotLooser(trail)
    return couples_from(one, other, 0, START)
