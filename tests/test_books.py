"""[1.1] to [1.3], and part 0 as far as books keep it."""

import random

from tests.helper import (NOT_NUMBERS, NOT_SEQUENCES, TOSS_WAYS, Case, all_ways, as_lists, drawn_books,
                          full_book, least_book, mixed_forms, set_and_look, toss_and_show)
from unmetcells.books import Book
from unmetcells.errors import BadBook

TWO = ((0, 0, 0, 1), (0, 1, 0, 0), (1, 0, 0, 1), (1, 1, 1, 1))


class TestConstructor(Case):

    def refused(self, what, *given):
        self.refuses(BadBook, {"what": what}, Book, *given)

    def test_attributes(self):
        for ways in mixed_forms(TOSS_WAYS):
            book = Book(3, 2, ways)
            self.assertSame((book.states, book.calls, book.ways), (3, 2, tuple(sorted(TOSS_WAYS))))

    def test_by_name(self):
        self.assertEqual(Book(states=2, calls=2, ways=TWO), set_and_look())

    def test_ways_in_any_order(self):
        dice = random.Random(1)
        for book in drawn_books(2, 20, 4, 3):
            ways = list(book.ways)
            dice.shuffle(ways)
            self.assertSame(Book(book.states, book.calls, ways).ways, tuple(sorted(ways)))

    def test_edges_of_states_and_calls(self):
        for states in (1, 6):
            for calls in (1, 4):
                self.assertSame(len(least_book(states, calls).ways), states * calls)
                self.assertSame(full_book(states, calls).ways, all_ways(states, calls))

    def test_432_ways_and_433(self):
        ways = all_ways(6, 4)
        self.assertEqual(len(ways), 432)
        self.assertSame(len(Book(6, 4, ways)), 432)
        self.refused("way", 6, 4, ways + ways[:1])
        self.refused("way", 6, 4, list(ways) + [ways[-1]])
        self.refused("way", 1, 1, [(0, 0, 0, 0)] * 433)
        self.refused("double", 1, 1, [(0, 0, 0, 0)] * 432)

    def test_states(self):
        for states in NOT_NUMBERS + (0, 7, -1, 10 ** 100, -10 ** 100):
            self.refused("states", states, 2, TWO)

    def test_calls(self):
        for calls in NOT_NUMBERS + (0, 5, -1, 10 ** 100, -10 ** 100):
            self.refused("calls", 2, calls, TWO)

    def test_ways_no_sequence(self):
        for ways in NOT_SEQUENCES + (iter(TWO), dict.fromkeys(TWO), set(TWO), Book(2, 2, TWO)):
            self.refused("way", 2, 2, ways)

    def test_item_no_sequence(self):
        for item in NOT_SEQUENCES + ((way for way in TWO), "0000", {0: 0, 1: 0, 2: 0, 3: 0}):
            self.refused("way", 2, 2, TWO + (item,))
            self.refused("way", 2, 2, [item] + list(TWO))

    def test_item_of_another_length(self):
        for item in ((), (0,), (0, 0, 1), (0, 0, 1, 0, 0), []):
            self.refused("way", 2, 2, TWO + (item,))

    def test_item_out_of_range(self):
        for item in ((2, 0, 1, 0), (-1, 0, 1, 0), (0, 2, 1, 0), (0, -1, 1, 0), (0, 0, 3, 0), (0, 0, -1, 0),
                     (0, 0, 1, 2), (0, 0, 1, -1), (10 ** 100, 0, 1, 0)):
            self.refused("way", 2, 2, TWO + (item,))
            self.refused("way", 2, 2, (list(item),) + TWO)

    def test_item_with_no_number(self):
        for place in range(4):
            for thing in NOT_NUMBERS:
                item = [0, 0, 1, 0]
                item[place] = thing
                self.refused("way", 2, 2, TWO + (tuple(item),))

    def test_double(self):
        for ways in mixed_forms(TWO + (TWO[2],)):
            self.refused("double", 2, 2, ways)
        self.refused("double", 2, 2, (list(TWO[0]),) + TWO)

    def test_lacking(self):
        for gone in range(4):
            for ways in mixed_forms(TWO[:gone] + TWO[gone + 1:]):
                self.refused("lacking", 2, 2, ways)
        self.refused("lacking", 1, 1, ())
        self.refused("lacking", 1, 1, [])
        self.refused("lacking", 3, 2, TWO)

    def test_order_of_words(self):
        bad = [(0, 0, 0, 0), (0, 0, 0, 0), (5, 0, 0, 0)]
        self.refused("states", 0, 0, None)
        self.refused("states", True, True, bad)
        self.refused("calls", 2, 0, None)
        self.refused("calls", 2, True, bad)
        self.refused("way", 2, 2, bad)
        self.refused("double", 2, 2, bad[:2])
        self.refused("lacking", 2, 2, bad[:1])

    def test_one_state_may_be_left_for_several_by_one_answer(self):
        self.assertSame(Book(2, 1, ((0, 0, 0, 0), (0, 0, 0, 1), (1, 0, 0, 0))).steps_from(0, 0), ((0, 0), (0, 1)))


class TestAsTable(Case):

    def test_answers(self):
        self.assertSame(toss_and_show().answers, (0, 1))
        self.assertSame(Book(1, 1, ((0, 0, 2, 0),)).answers, (2,))
        self.assertSame(Book(1, 2, ((0, 1, 0, 0), (0, 0, 2, 0))).answers, (0, 2))
        self.assertSame(full_book(6, 4).answers, (0, 1, 2))
        for book in drawn_books(3, 30, 4, 3):
            self.assertSame(book.answers, tuple(sorted({way[2] for way in book.ways})))

    def test_iteration_and_length(self):
        for book in drawn_books(4, 30, 4, 3):
            self.assertSame(tuple(book), book.ways)
            self.assertSame([way for way in book], list(book.ways))
            self.assertSame(len(book), len(book.ways))

    def test_in_for_all_ways_in_range_and_beyond(self):
        for book in drawn_books(5, 10, 3, 2):
            for way in all_ways(book.states + 1, book.calls + 1):
                self.assertIs(way in book, way in set(book.ways))
                self.assertIs(list(way) in book, way in set(book.ways))

    def test_in_for_other_things(self):
        book = full_book(2, 2)
        for thing in NOT_SEQUENCES + NOT_NUMBERS + ("0000", (0, 0, 0), (0, 0, 0, 0, 0), ((0, 0, 0, 0),), [],
                                                    {(0, 0, 0, 0): 1}, (-1, 0, 0, 0), (0, 0, 3, 0)):
            self.assertIs(thing in book, False)
        for place in range(4):
            for thing in NOT_NUMBERS:
                way = [1, 1, 1, 1]
                way[place] = thing
                self.assertIs(way in book, False)
                self.assertIs(tuple(way) in book, False)

    def test_equality(self):
        for book in drawn_books(6, 20, 3, 2):
            twin = Book(book.states, book.calls, as_lists(book.ways[::-1]))
            self.assertIs(book == twin, True)
            self.assertIs(book != twin, False)

    def test_inequality(self):
        books = [set_and_look(), toss_and_show(), least_book(1, 1), least_book(2, 1), least_book(1, 2),
                 Book(1, 1, ((0, 0, 1, 0),)), Book(1, 1, ((0, 0, 0, 0), (0, 0, 1, 0)))]
        for at, one in enumerate(books):
            for k, other in enumerate(books):
                self.assertIs(one == other, at == k)
                self.assertIs(one != other, at != k)

    def test_equality_beside_other_things(self):
        book = set_and_look()
        for thing in NOT_SEQUENCES + (book.ways, list(book.ways), (2, 2, book.ways), Book, "book 2 2"):
            self.assertIs(book == thing, False)
            self.assertIs(book != thing, True)
            self.assertIs(thing == book, False)

    def test_steps_from(self):
        self.assertSame(toss_and_show().steps_from(0, 0), ((0, 1), (1, 2)))
        self.assertSame(toss_and_show().steps_from(2, 1), ((1, 2),))
        for book in drawn_books(7, 30, 4, 3) + [full_book(6, 4)]:
            for state in range(book.states):
                for call in range(book.calls):
                    wanted = sorted(way[2:] for way in book.ways if way[:2] == (state, call))
                    self.assertSame(book.steps_from(state, call), tuple(wanted))

    def test_all_parts_are_tuples(self):
        book = Book(2, 2, as_lists(TWO))
        self.assertTuples(book.ways)
        self.assertTuples(book.answers)
        self.assertTuples(book.steps_from(0, 0))
        for way in book:
            self.assertTuples(way)


class TestWithAndWithout(Case):

    def test_with_way(self):
        for book in drawn_books(8, 10, 3, 2):
            for way in all_ways(book.states, book.calls):
                for form in (way, list(way)):
                    if way in book.ways:
                        self.refuses(BadBook, {"what": "double"}, book.with_way, form)
                    else:
                        more = book.with_way(form)
                        self.assertSame(more.ways, tuple(sorted(book.ways + (way,))))
                        self.assertSame((more.states, more.calls), (book.states, book.calls))

    def test_with_way_of_wrong_form(self):
        book = set_and_look()
        for thing in NOT_SEQUENCES + ((), (0, 0, 1), (0, 0, 1, 0, 0), (2, 0, 0, 0), (0, 2, 0, 0), (0, 0, 3, 0),
                                      (0, 0, 0, 2), (-1, 0, 0, 0), [(0, 0, 1, 0)]):
            self.refuses(BadBook, {"what": "way"}, book.with_way, thing)
        for place in range(4):
            for thing in NOT_NUMBERS:
                way = list(TWO[3])
                way[place] = thing
                self.refuses(BadBook, {"what": "way"}, book.with_way, way)

    def test_with_way_of_a_full_book(self):
        self.refuses(BadBook, {"what": "double"}, full_book(6, 4).with_way, (5, 3, 2, 5))

    def test_without_way(self):
        for book in drawn_books(9, 10, 3, 2):
            for way in all_ways(book.states, book.calls):
                alone = [row for row in book.ways if row[:2] == way[:2]] == [way]
                for form in (way, list(way)):
                    if way not in book.ways:
                        self.refuses(BadBook, {"what": "way"}, book.without_way, form)
                    elif alone:
                        self.refuses(BadBook, {"what": "lacking"}, book.without_way, form)
                    else:
                        less = book.without_way(form)
                        self.assertSame(less.ways, tuple(row for row in book.ways if row != way))
                        self.assertSame((less.states, less.calls), (book.states, book.calls))

    def test_without_way_of_wrong_form(self):
        book = full_book(2, 2)
        for thing in NOT_SEQUENCES + ((), (0, 0, 1), (2, 0, 0, 0), [(0, 0, 1, 0)]):
            self.refuses(BadBook, {"what": "way"}, book.without_way, thing)
        for place in range(4):
            for thing in NOT_NUMBERS:
                way = [1, 1, 1, 1]
                way[place] = thing
                self.refuses(BadBook, {"what": "way"}, book.without_way, way)

    def test_there_and_back(self):
        for book in drawn_books(10, 10, 3, 2):
            for way in all_ways(book.states, book.calls):
                if way not in book.ways:
                    self.assertEqual(book.with_way(way).without_way(way), book)

    def test_the_book_stays(self):
        book = set_and_look()
        book.with_way((0, 0, 1, 0)).without_way((0, 0, 0, 1))
        self.assertEqual(book, set_and_look())
        self.assertSame(book.steps_from(0, 0), ((0, 1),))
        self.assertSame(book.answers, (0, 1))


class TestWhatIsPassed(Case):

    def test_it_stays_as_it_is(self):
        ways = as_lists(TOSS_WAYS)
        Book(3, 2, ways)
        self.assertSame(ways, as_lists(TOSS_WAYS))
        way = [0, 0, 1, 0]
        book = set_and_look()
        self.assertIs(way in book, False)
        book.with_way(way).without_way(way)
        self.assertSame(way, [0, 0, 1, 0])

    def test_later_changes_change_no_book(self):
        ways = as_lists(TWO)
        book = Book(2, 2, ways)
        ways[0][2] = 2
        ways[1].append(7)
        del ways[2:]
        self.assertEqual(book, set_and_look())
        self.assertSame(book.steps_from(0, 0), ((0, 1),))
        way = [0, 0, 1, 0]
        more = book.with_way(way)
        way[2] = 2
        self.assertIs((0, 0, 1, 0) in more, True)
        self.assertIs((0, 0, 2, 0) in more, False)
