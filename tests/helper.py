"""Sample books, wrong things, and plain searches that the tests hold the program against."""

import random
import unittest
from fractions import Fraction
from itertools import product

from unmetcells.books import Book

# Things that are equal to numbers, look like numbers, or hold numbers, but are no whole numbers.
NOT_NUMBERS = (True, False, 0.0, 1.0, 2.5, Fraction(1), 1 + 0j, "0", "1", b"1", None, (), (1,), [0], {0: 0})

# Things that are no lists and no tuples; some of them hold just what a sequence would hold.
NOT_SEQUENCES = (None, "", "abc", b"", b"abc", {}, {0: 1}, set(), {0}, range(0), range(3), 0, 3, True, 1.5,
                 iter(()), object())

# Things that are no strings.
NOT_TEXTS = (None, b"", b"book 1 1", 0, 1, True, 1.5, [], (), ["book 1 1"], {}, object())

TOSS_WAYS = ((0, 0, 0, 1), (0, 0, 1, 2), (1, 0, 0, 1), (1, 0, 1, 2), (2, 0, 0, 1), (2, 0, 1, 2),
             (0, 1, 0, 0), (1, 1, 0, 1), (2, 1, 1, 2))


def toss_and_show():
    """The book of [1.9]."""
    return Book(3, 2, TOSS_WAYS)


def set_and_look():
    """The first book of [2.13]."""
    return Book(2, 2, ((0, 0, 0, 1), (0, 1, 0, 0), (1, 0, 0, 1), (1, 1, 1, 1)))


def free_look():
    """The second book of [2.13]."""
    return Book(1, 2, ((0, 0, 0, 0), (0, 1, 0, 0), (0, 1, 1, 0)))


def all_ways(states, calls):
    """All ways that so many states and calls let, ascending."""
    return tuple(product(range(states), range(calls), range(3), range(states)))


def full_book(states, calls):
    """The book with all ways."""
    return Book(states, calls, all_ways(states, calls))


def least_book(states, calls):
    """A book with one way for each state and call."""
    return Book(states, calls, [(s, c, 0, 0) for s in range(states) for c in range(calls)])


def drawn_book(dice, states, calls, share):
    """A book that has each way with this chance in ten, and one way at least where it needs one."""
    ways = [way for way in all_ways(states, calls) if dice.randrange(10) < share]
    for state in range(states):
        for call in range(calls):
            if not any(way[:2] == (state, call) for way in ways):
                ways.append((state, call, dice.randrange(3), dice.randrange(states)))
    return Book(states, calls, ways)


def drawn_books(seed, many, most_states, most_calls):
    """So many books; the same seed gives the same books."""
    dice = random.Random(seed)
    return [drawn_book(dice, dice.randrange(1, most_states + 1), dice.randrange(1, most_calls + 1),
                       dice.choice((0, 1, 2, 4))) for _ in range(many)]


def all_standings(book):
    """All standings of a book, () first."""
    found = []
    for bits in product((False, True), repeat=book.states):
        found.append(tuple(s for s in range(book.states) if bits[s]))
    return sorted(found)


def walk_ends(book, standing, trail):
    """The ends of the walks from the standing along the trail, walk after walk."""
    ends = set(standing)
    for couple in trail:
        ends = {way[3] for way in book.ways if way[0] in ends and way[1:3] == tuple(couple)}
    return tuple(sorted(ends))


def trails_of(calls, most):
    """All trails of at most so many couples, the lesser ones first."""
    couples = list(product(range(calls), range(3)))
    for length in range(most + 1):
        yield from product(couples, repeat=length)


def as_lists(thing):
    """The thing with lists in the place of tuples, through and through."""
    if isinstance(thing, (list, tuple)):
        return [as_lists(item) for item in thing]
    return thing


def as_tuples(thing):
    """The thing with tuples in the place of lists, through and through."""
    if isinstance(thing, (list, tuple)):
        return tuple(as_tuples(item) for item in thing)
    return thing


def mixed_forms(thing):
    """The thing as tuples, as lists, as a list of tuples and as a tuple of lists."""
    tuples = as_tuples(thing)
    return (tuples, as_lists(thing), list(tuples), tuple(as_lists(item) for item in tuples))


def changed_texts(text, signs):
    """All texts that come from one by a sign or a line that is changed, dropped, doubled or exchanged."""
    found = []
    for at in range(len(text) + 1):
        for sign in signs:
            found.append(text[:at] + sign + text[at:])
            found.append(text[:at] + sign + text[at + 1:])
        found.append(text[:at] + text[at + 1:])
        found.append(text[:at] + text[at:at + 1] * 2 + text[at + 1:])
        found.append(text[:at] + text[at:at + 2][::-1] + text[at + 2:])
    for between in ("\n", " "):
        parts = text.split(between)
        for at in range(len(parts)):
            found.append(between.join(parts[:at] + parts[at + 1:]))
            found.append(between.join(parts[:at] + parts[at:at + 1] * 2 + parts[at + 1:]))
            found.append(between.join(parts[:at] + parts[at:at + 2][::-1] + parts[at + 2:]))
    return sorted(set(found))


class Case(unittest.TestCase):
    """A test case with what several files ask for."""

    def refuses(self, error, told, ask, *given):
        """Ask, and want just this error with just these attributes."""
        with self.assertRaises(ValueError) as caught:
            ask(*given)
        self.assertIs(caught.exception.__class__, error)
        self.assertSame(vars(caught.exception), told)

    def assertSame(self, found, wanted):
        """Want an equal thing of the same kinds: True is not 1 here, and a list is no tuple."""
        self.assertEqual(found, wanted)
        self.assertEqual(repr(found), repr(wanted))

    def assertTuples(self, thing):
        """Want whole numbers, None, strings, and tuples of these only."""
        if isinstance(thing, tuple):
            self.assertIs(thing.__class__, tuple)
            for item in thing:
                self.assertTuples(item)
        else:
            self.assertIn(thing.__class__, (int, str, None.__class__))
