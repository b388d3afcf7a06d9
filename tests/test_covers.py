"""[2.10] to [2.12], and of [2.13] what it says of covers."""

import random
from itertools import product

from tests.helper import (NOT_NUMBERS, NOT_SEQUENCES, Case, all_standings, as_lists, drawn_book, drawn_books, free_look,
                          full_book, least_book, mixed_forms, set_and_look, toss_and_show, trails_of, walk_ends)
from tests.test_standings import NOT_STANDINGS
from unmetcells.books import Book
from unmetcells.covers import cover_fault, cover_of, looser_fault
from unmetcells.errors import BadCover, NotLooser, UnlikeCalls

COVER = ((0, (0,)), (1, (0,)))


def plain_fault(one, other, most):
    """The least trail of at most so many couples that `one` lets and `other` does not, or None."""
    for trail in trails_of(one.calls, most):
        if walk_ends(one, (0,), trail) and not walk_ends(other, (0,), trail):
            return trail
    return None


def plain_cover_fault(one, other, cover):
    """What [2.11] tells, looked for in the whole cover each time."""
    if (0, (0,)) not in cover:
        return ("start",)
    for index, (state, standing) in enumerate(cover):
        if standing == ():
            return ("bare", index)
        for way in sorted(one.ways):
            led = set(walk_ends(other, standing, (way[1:3],)))
            if way[0] == state and not any(t == way[3] and set(lesser) <= led for t, lesser in cover):
                return ("way", index, way)
    return None


def couples_of_books(seed, many, most_states, most_calls):
    """Couples of books with equally many calls; of some the second one is looser."""
    dice = random.Random(seed)
    for one in drawn_books(seed, many, most_states, most_calls):
        yield one, drawn_book(dice, dice.randrange(1, most_states + 1), one.calls, dice.choice((1, 3, 6)))
        yield one, Book(one.states, one.calls,
                        set_of_ways(one, drawn_book(dice, one.states, one.calls, 3)))


def set_of_ways(one, other):
    return sorted(set(one.ways) | set(other.ways))


class TestLooserFault(Case):

    def test_example(self):
        self.assertIs(looser_fault(set_and_look(), free_look()), None)
        self.assertSame(looser_fault(free_look(), set_and_look()), ((1, 1),))

    def test_looser_than_itself(self):
        for book in drawn_books(60, 20, 6, 4):
            self.assertIs(looser_fault(book, book), None)

    def test_more_ways_are_looser(self):
        for one, other in couples_of_books(61, 15, 5, 3):
            if set(one.ways) <= set(other.ways):
                self.assertIs(looser_fault(one, other), None)

    def test_against_all_trails(self):
        # A shortest trail goes through no couple (state, standing) twice, so six couples are enough here.
        for one, other in couples_of_books(62, 20, 2, 1):
            self.assertSame(looser_fault(one, other), plain_fault(one, other, 6))

    def test_least_as_far_as_looked(self):
        for one, other in couples_of_books(63, 40, 3, 2):
            found = looser_fault(one, other)
            wanted = plain_fault(one, other, 4)
            if wanted is not None or found is not None and len(found) <= 4:
                self.assertSame(found, wanted)

    def test_larger_books(self):
        for one, other in couples_of_books(64, 15, 6, 4):
            trail = looser_fault(one, other)
            if trail is not None:
                self.assertTuples(trail)
                self.assertTrue(1 <= len(trail) <= 378)
                self.assertNotEqual(walk_ends(one, (0,), trail), ())
                self.assertEqual(walk_ends(other, (0,), trail), ())
                self.assertNotEqual(walk_ends(other, (0,), trail[:-1]), ())

    def test_unlike_calls(self):
        for ask in (looser_fault, cover_of):
            self.refuses(UnlikeCalls, {}, ask, least_book(1, 1), least_book(1, 2))
            self.refuses(UnlikeCalls, {}, ask, least_book(2, 4), least_book(2, 3))


class TestCoverFault(Case):

    def test_example(self):
        for form in mixed_forms(COVER) + mixed_forms(COVER[::-1]) + mixed_forms(COVER + COVER):
            self.assertIs(cover_fault(set_and_look(), free_look(), form), None)

    def test_start(self):
        for cover in ((), [], ((1, (0,)),), ((0, ()),), ((0, (1,)), (0, (0, 1)))):
            self.assertSame(cover_fault(set_and_look(), set_and_look(), cover), ("start",))

    def test_bare(self):
        self.assertSame(cover_fault(set_and_look(), free_look(), COVER + ((0, ()),)), ("bare", 2))
        self.assertSame(cover_fault(set_and_look(), free_look(), ((1, []),) + COVER), ("bare", 0))

    def test_way(self):
        self.assertSame(cover_fault(set_and_look(), free_look(), ((0, (0,)),)), ("way", 0, (0, 0, 0, 1)))
        self.assertSame(cover_fault(free_look(), set_and_look(), ((0, (0,)), (0, (1,)), (0, (0, 1)))),
                        ("way", 0, (0, 1, 1, 0)))

    def test_couple_by_couple(self):
        # No couple has state 1, and the bare standing covers all that leads to state 0.
        one = Book(2, 2, ((0, 0, 0, 0), (0, 1, 1, 1), (1, 0, 0, 0), (1, 1, 0, 0)))
        cover = ((0, (0,)), (0, ()))
        self.assertSame(cover_fault(one, set_and_look(), cover), ("way", 0, (0, 1, 1, 1)))
        self.assertSame(cover_fault(one, set_and_look(), cover[::-1]), ("bare", 0))
        self.assertSame(cover_fault(one, set_and_look(), ((1, (0,)),) + cover), ("way", 1, (0, 1, 1, 1)))
        self.assertSame(cover_fault(one, set_and_look(), ((1, (0,)),) + cover[::-1]), ("bare", 1))

    def test_lesser_may_be_bare(self):
        book = least_book(1, 1)
        one = Book(1, 1, ((0, 0, 0, 0), (0, 0, 1, 0)))
        self.assertSame(cover_fault(one, book, ((0, (0,)),)), ("way", 0, (0, 0, 1, 0)))
        self.assertSame(cover_fault(one, book, ((0, (0,)), (0, ()))), ("bare", 1))

    def test_against_a_plain_search(self):
        dice = random.Random(65)
        for one, other in couples_of_books(66, 60, 3, 2):
            couples = list(product(range(one.states), all_standings(other)))
            for _ in range(8):
                cover = tuple(dice.choice(couples) for _ in range(dice.randrange(1, 2 * len(couples))))
                cover = tuple(couple for couple in cover if couple[1] != () or dice.randrange(4) == 0)
                cover = cover if dice.randrange(4) == 0 else ((0, (0,)),) + cover
                self.assertSame(cover_fault(one, other, cover), plain_cover_fault(one, other, cover))

    def test_some_cover_holds_exactly_if_looser(self):
        for one, other in couples_of_books(67, 15, 2, 1):
            couples = list(product(range(one.states), all_standings(other)[1:]))
            held = False
            for bits in product((False, True), repeat=len(couples)):
                cover = [couple for couple, kept in zip(couples, bits) if kept]
                held = held or cover_fault(one, other, cover) is None
            self.assertIs(held, looser_fault(one, other) is None)

    def test_no_sequence(self):
        for thing in NOT_SEQUENCES:
            self.refuses(BadCover, {"index": 0}, cover_fault, set_and_look(), free_look(), thing)

    def test_400_couples_and_401(self):
        self.assertIs(cover_fault(set_and_look(), free_look(), COVER * 200), None)
        for cover in ((COVER * 201)[:401], [None] * 401):
            self.refuses(BadCover, {"index": 401}, cover_fault, set_and_look(), free_look(), cover)

    def test_wrong_items(self):
        one, other = toss_and_show(), least_book(3, 2)
        wrong = [(), (0,), (0, (0,), 0), None, "00", 0, {0: (0,), 1: 1}, (3, (0,)), (-1, (0,)), ((0,), 0)]
        wrong += [(thing, (0,)) for thing in NOT_NUMBERS] + [[0, thing] for thing in NOT_STANDINGS]
        for item in wrong:
            self.refuses(BadCover, {"index": 1}, cover_fault, one, other, ((0, (0,)), item, None))
            self.refuses(BadCover, {"index": 2}, cover_fault, one, other, [[0, [0]], [0, []], item])

    def test_states_and_standings_are_those_of_their_books(self):
        self.refuses(BadCover, {"index": 1}, cover_fault, set_and_look(), free_look(), ((0, (0,)), (0, (1,))))
        self.refuses(BadCover, {"index": 1}, cover_fault, free_look(), set_and_look(), ((0, (0, 1)), (1, (0,))))

    def test_unlike_calls_come_first(self):
        self.refuses(UnlikeCalls, {}, cover_fault, least_book(1, 1), least_book(1, 2), None)

    def test_what_is_passed_stays(self):
        cover = as_lists(COVER)
        cover_fault(set_and_look(), free_look(), cover)
        self.assertSame(cover, as_lists(COVER))


class TestCoverOf(Case):

    def test_example(self):
        self.assertSame(cover_of(set_and_look(), free_look()), COVER)

    def test_not_looser(self):
        self.refuses(NotLooser, {"trail": ((1, 1),)}, cover_of, free_look(), set_and_look())
        for one, other in couples_of_books(68, 15, 4, 3):
            trail = looser_fault(one, other)
            if trail is None:
                cover = cover_of(one, other)
                self.assertTuples(cover)
                self.assertIs(cover_fault(one, other, cover), None)
                self.assertLessEqual(len(cover), 378)
                self.assertSame(cover, tuple(sorted(set(cover))))
            else:
                self.refuses(NotLooser, {"trail": trail}, cover_of, one, other)

    def test_against_all_trails(self):
        for one, other in couples_of_books(69, 25, 2, 1):
            if looser_fault(one, other) is None:
                couples = set()
                for trail in trails_of(1, 6):
                    for state in walk_ends(one, (0,), trail):
                        couples.add((state, walk_ends(other, (0,), trail)))
                self.assertSame(cover_of(one, other), tuple(sorted(couples)))

    def test_full_books(self):
        whole = tuple(range(6))
        wanted = [(0, (0,))] + [(state, whole) for state in range(6)]
        self.assertSame(cover_of(full_book(6, 4), full_book(6, 4)), tuple(sorted(wanted)))
