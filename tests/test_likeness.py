"""[2.6] to [2.9], and of [2.13] what it says of likeness."""

from itertools import product

from tests.helper import (NOT_NUMBERS, Case, all_standings, all_ways, drawn_books, full_book, least_book, set_and_look,
                          toss_and_show, trails_of, walk_ends)
from tests.test_standings import NOT_STANDINGS, drawn_histories
from unmetcells.books import Book
from unmetcells.errors import BadLength, BadStanding
from unmetcells.likeness import (alike_states, count_trails, looser_states, merged_book, merged_states,
                                 parted_by)
from unmetcells.standings import is_right, onward_trail


def follows(book, standing, trail):
    return walk_ends(book, standing, trail) != ()


def plain_parting(book, one, other, most):
    """The least trail of at most so many couples that follows just one standing, or None."""
    for trail in trails_of(book.calls, most):
        if follows(book, one, trail) != follows(book, other, trail):
            return trail
    return None


def small_books(step):
    """Every so many of the books with two states and one call."""
    ways = all_ways(2, 1)
    masks = list(product((False, True), repeat=6))[1:]
    books = [Book(2, 1, [way for way, kept in zip(ways, low + high) if kept]) for low in masks for high in masks]
    return books[::step]


def searched_books():
    """Books so small that trails of this length part all standings that can be parted."""
    books = [(book, 2) for book in small_books(37)]
    books += [(book, 2) for book in drawn_books(40, 12, 2, 2)]
    return books + [(book, 6) for book in drawn_books(41, 4, 3, 1)]


class TestParted(Case):

    def test_example(self):
        self.assertSame(parted_by(set_and_look(), (0,), (1,)), ((1, 0),))

    def test_alike_to_itself(self):
        for book in drawn_books(42, 10, 4, 3):
            for standing in all_standings(book):
                self.assertIs(parted_by(book, standing, list(standing)), None)

    def test_bare_standing(self):
        self.assertIs(parted_by(toss_and_show(), (), []), None)
        for standing in all_standings(toss_and_show())[1:]:
            self.assertSame(parted_by(toss_and_show(), standing, ()), ())
            self.assertSame(parted_by(toss_and_show(), [], standing), ())

    def test_against_all_trails(self):
        for book, most in searched_books():
            for one, other in product(all_standings(book), repeat=2):
                self.assertSame(parted_by(book, one, other), plain_parting(book, one, other, most))

    def test_least_as_far_as_looked(self):
        for book in drawn_books(43, 12, 3, 2):
            for one, other in product(all_standings(book), repeat=2):
                found = parted_by(book, one, other)
                wanted = plain_parting(book, one, other, 3)
                if wanted is not None or found is not None and len(found) <= 3:
                    self.assertSame(found, wanted)

    def test_larger_books(self):
        for book in drawn_books(44, 12, 6, 4):
            for one, other in list(product(all_standings(book), repeat=2))[::97]:
                trail = parted_by(book, one, other)
                if trail is not None:
                    self.assertTuples(trail)
                    self.assertLessEqual(len(trail), 62)
                    self.assertNotEqual(follows(book, one, trail), follows(book, other, trail))

    def test_errors(self):
        for thing in NOT_STANDINGS:
            self.refuses(BadStanding, {}, parted_by, toss_and_show(), thing, (0,))
            self.refuses(BadStanding, {}, parted_by, toss_and_show(), (0,), thing)


class TestStates(Case):

    def test_looser_and_alike_against_all_trails(self):
        for book, most in searched_books():
            trails = list(trails_of(book.calls, most))
            walked = [{trail for trail in trails if follows(book, (s,), trail)} for s in range(book.states)]
            looser = [tuple(t for t in range(book.states) if walked[t] >= walked[s]) for s in range(book.states)]
            self.assertSame(looser_states(book), tuple(looser))
            self.assertSame(alike_states(book), tuple(walked.index(walked[s]) for s in range(book.states)))

    def test_as_parted_by_tells(self):
        for book in drawn_books(45, 20, 5, 3):
            alike = alike_states(book)
            for s in range(book.states):
                like = [t for t in range(book.states) if parted_by(book, (s,), (t,)) is None]
                self.assertSame(alike[s], like[0])
                looser = looser_states(book)[s]
                self.assertIn(s, looser)
                self.assertSame([t for t in looser if s in looser_states(book)[t]], like)

    def test_samples(self):
        self.assertSame(looser_states(toss_and_show()), ((0, 1), (0, 1), (2,)))
        self.assertSame(alike_states(toss_and_show()), (0, 0, 2))
        self.assertSame(looser_states(Book(2, 1, ((0, 0, 0, 0), (1, 0, 0, 0), (1, 0, 1, 1)))), ((0, 1), (1,)))

    def test_edges(self):
        self.assertSame(looser_states(least_book(1, 1)), ((0,),))
        self.assertSame(alike_states(least_book(1, 1)), (0,))
        self.assertSame(alike_states(full_book(6, 4)), (0,) * 6)
        self.assertSame(looser_states(full_book(6, 4)), ((0, 1, 2, 3, 4, 5),) * 6)


class TestCountTrails(Case):

    def test_against_all_trails(self):
        for book in drawn_books(46, 20, 3, 2):
            for standing in all_standings(book):
                for length in range(4):
                    trails = product(product(range(book.calls), range(3)), repeat=length)
                    wanted = sum(follows(book, standing, trail) for trail in trails)
                    self.assertSame(count_trails(book, standing, length), wanted)
                    self.assertSame(count_trails(book, list(standing), length), wanted)

    def test_edges_of_length(self):
        book = full_book(6, 4)
        for length in (0, 1, 63, 64):
            self.assertSame(count_trails(book, (0,), length), 12 ** length)
            self.assertSame(count_trails(book, (), length), 0)
            self.assertSame(count_trails(least_book(6, 4), (5,), length), 4 ** length)

    def test_bad_length(self):
        for length in NOT_NUMBERS + (-1, 65, 10 ** 100):
            self.refuses(BadLength, {}, count_trails, toss_and_show(), (0,), length)
            self.refuses(BadLength, {}, count_trails, toss_and_show(), (), length)

    def test_standing_comes_before_length(self):
        for thing in NOT_STANDINGS:
            self.refuses(BadStanding, {}, count_trails, toss_and_show(), thing, None)

    def test_counts_part_standings_within_each_other(self):
        for book in drawn_books(47, 12, 4, 2):
            counts = {standing: [count_trails(book, standing, length) for length in range(63)]
                      for standing in all_standings(book)}
            for one, other in product(counts, repeat=2):
                if set(one) < set(other):
                    unlike = [length for length in range(63) if counts[one][length] != counts[other][length]]
                    trail = parted_by(book, one, other)
                    if trail is None:
                        self.assertEqual(unlike, [])
                    else:
                        self.assertSame(unlike[0], len(trail))


class TestMerged(Case):

    def test_against_all_trails(self):
        for book, most in searched_books():
            ends = {0}
            for _ in range(book.states):
                ends |= {way[3] for way in book.ways if way[0] in ends}
            numbers = []
            for s in range(book.states):
                twins = [t for t in range(s) if t in ends and plain_parting(book, (s,), (t,), most) is None]
                if s not in ends:
                    numbers.append(None)
                elif twins:
                    numbers.append(numbers[twins[0]])
                else:
                    numbers.append(len({n for n in numbers if n is not None}))
            self.assertSame(merged_states(book), tuple(numbers))
            ways = {(numbers[s], c, a, numbers[t]) for s, c, a, t in book.ways if s in ends}
            wanted = Book(max(n for n in numbers if n is not None) + 1, book.calls, sorted(ways))
            self.assertEqual(merged_book(book), wanted)

    def test_state_that_is_alike_to_one_that_is_not_reached(self):
        book = Book(4, 1, ((0, 0, 0, 3), (1, 0, 1, 1), (2, 0, 0, 2), (3, 0, 1, 3)))
        self.assertSame(alike_states(book), (0, 1, 2, 1))
        self.assertSame(merged_states(book), (0, None, None, 1))
        self.assertEqual(merged_book(book), Book(2, 1, ((0, 0, 0, 1), (1, 0, 1, 1))))

    def test_samples(self):
        self.assertSame(merged_states(toss_and_show()), (0, 0, 1))
        self.assertSame(merged_states(set_and_look()), (0, 1))
        self.assertEqual(merged_book(set_and_look()), set_and_look())
        self.assertSame(merged_states(full_book(6, 4)), (0,) * 6)
        self.assertEqual(merged_book(full_book(6, 4)), full_book(1, 4))
        self.assertSame(merged_states(least_book(6, 1)), (0, None, None, None, None, None))

    def test_merged_again(self):
        for book in drawn_books(48, 40, 6, 3):
            merged = merged_book(book)
            self.assertEqual(merged_book(merged), merged)
            self.assertSame(alike_states(merged), tuple(range(merged.states)))

    def test_same_histories_are_right(self):
        for book, history in drawn_histories(49):
            self.assertIs(is_right(merged_book(book), history), is_right(book, history))

    def test_books_stay(self):
        book = toss_and_show()
        merged_book(book)
        self.assertEqual(book, toss_and_show())


class TestLooserStandings(Case):

    def test_greater_standings_follow_more(self):
        for book in drawn_books(50, 6, 3, 2):
            for one, other in product(all_standings(book), repeat=2):
                if set(one) <= set(other):
                    for trail in trails_of(book.calls, 2):
                        self.assertLessEqual(onward_trail(book, one, trail) != (),
                                             onward_trail(book, other, trail) != ())
