"""Books and wishes that are loosened by more ways, and the least and greatest lots of such ways."""

from unmetcells.books import Book, is_way
from unmetcells.errors import BadPool
from unmetcells.foes import is_had, wish_fault
from unmetcells.kinds import chosen_rows, is_sequence
from unmetcells.scripts import Wish

MOST_POOL = 6


class Needless:
    """A way without which the rest of a lot helps, too."""

    def __init__(self, way):
        self.way = way

    def __eq__(self, other):
        return isinstance(other, Needless) and self.way == other.way


def check_ways(book, ways, least):
    """Return at least so many and at most 6 ways that the book lacks as an ascending tuple, or raise BadPool."""
    if not is_sequence(ways) or not least <= len(ways) <= MOST_POOL:
        raise BadPool(0, "many")
    rows = []
    for index, way in enumerate(ways):
        if not is_way(book.states, book.calls, way):
            raise BadPool(index, "way")
        if way in book:
            raise BadPool(index, "there")
        if tuple(way) in rows:
            raise BadPool(index, "double")
        rows.append(tuple(way))
    return tuple(sorted(rows))


def check_pool(book, pool):
    """Return the pool as an ascending tuple, or raise BadPool."""
    return check_ways(book, pool, 1)


def loosened(book, lot):
    """Return the book with the ways of the lot put to it."""
    return Book(book.states, book.calls, book.ways + check_ways(book, lot, 0))


def loosened_wish(wish, lot):
    """Return the wish with its book loosened by the lot."""
    return Wish(loosened(wish.book, lot), wish.past, wish.scripts)


def rest_of(lot, way):
    """Return the lot without this way."""
    return tuple([other for other in lot if other != way])


def helping_table(wish, pool):
    """Return a dict from each lot of the pool, the shorter ones first, to whether it helps."""
    table = {}
    for lot in chosen_rows(pool):
        # A lot that holds one that helps does help, so only the others have to be judged.
        table[lot] = any([table[rest_of(lot, way)] for way in lot]) or is_had(loosened_wish(wish, lot))
    return table


def loosenings(wish, pool):
    """Return the lots of the pool that help, but no longer help, whichever one way is left out."""
    table = helping_table(wish, check_pool(wish.book, pool))
    least = []
    for lot in table:
        if table[lot] and not any([table[rest_of(lot, way)] for way in lot]):
            least.append(lot)
    return tuple(least)


def firm_lots(wish, pool):
    """Return the lots of the pool that do not help, but help, whichever one way is put to them."""
    checked = check_pool(wish.book, pool)
    table = helping_table(wish, checked)
    greatest = []
    for lot in sorted(table, key=lambda row: (-len(row), row)):
        more = [tuple(sorted(lot + (way,))) for way in checked if way not in lot]
        if not table[lot] and all([table[greater] for greater in more]):
            greatest.append(lot)
    return tuple(greatest)


def loosen_fault(wish, lot):
    """Return None if the lot is a least one that helps, else what is wrong with it."""
    ways = check_ways(wish.book, lot, 0)
    barred = wish_fault(loosened_wish(wish, ways))
    if barred is not None:
        return barred
    for way in ways:
        if is_had(loosened_wish(wish, rest_of(ways, way))):
            return Needless(way)
    return None
