"""[6.3] and [6.4], and of [6.10] what it says of program_fault."""

import random
from itertools import product

from tests.helper import (NOT_NUMBERS, Case, drawn_book, full_book, least_book, set_and_look, toss_and_show, walk_ends)
from tests.test_foreign import LOOK, SAY, SET, drawn_foreign, rows_of
from tests.test_programs import had_wishes, look_wish
from unmetcells.books import Book
from unmetcells.errors import BadHands, TooMany, UnlikeCalls
from unmetcells.foreign import Foreign
from unmetcells.programs import UnmetProgram
from unmetcells.rightness import program_fault
from unmetcells.standings import is_right
from unmetcells.steps import run_program


class Climb:
    """A program of one call that counts up to `top` by hand 0 and says 0; hand 1 says `word`, and hand 2 begins anew."""

    calls = 1

    def __init__(self, top, word=0):
        self.top = top
        self.word = word

    def first_cells(self):
        return {"at": 0, "more": (None, "x")}

    def step(self, read, write, hand, call):
        if hand == 0 and read("at") < self.top:
            write("at", read("at") + 1)
        if hand == 2:
            write("at", 0)
        return self.word if hand == 1 else 0


def plain_fault(book, program, hands, most):
    """The least row of at most so many asks whose history is wrong, row by row."""
    asks = list(product(range(hands), range(book.calls)))
    for length in range(1, most + 1):
        for row in product(asks, repeat=length):
            if not is_right(book, run_program(program, row).entries):
                return row
    return None


def made_right(dice, book):
    """A foreign program of one cell that walks a book with at most three states; some of its ways may be spoilt."""
    deeds = []
    for call in range(book.calls):
        below = []
        for state in range(book.states):
            answer, after = dice.choice(book.steps_from(state, call))
            if dice.randrange(12) == 0:
                answer = dice.randrange(3)
            below.append(("write", 0, after, ("say", answer)))
        deeds.append(("read", 0, tuple(below)))
    return Foreign((book.states,), rows_of(*deeds))


class TestSamples(Case):

    def test_example(self):
        self.assertIs(program_fault(set_and_look(), Foreign((2,), rows_of(SET, LOOK)), 4), None)
        self.assertIs(program_fault(set_and_look(), Foreign((2,), rows_of(SET, LOOK))), None)
        wrong = Foreign((2,), rows_of(SAY, LOOK))
        self.assertSame(program_fault(set_and_look(), wrong, 4), ((0, 0), (0, 1)))
        self.assertSame(program_fault(set_and_look(), wrong), ((0, 0), (0, 1)))

    def test_least_row(self):
        wrong = Foreign((2,), ((SET, LOOK), (SAY, LOOK), (SET, LOOK), (SET, ("say", 1))))
        self.assertIs(program_fault(set_and_look(), wrong, 1), None)
        self.assertSame(program_fault(set_and_look(), wrong, 2), ((1, 0), (0, 1)))
        self.assertSame(program_fault(set_and_look(), wrong, 3), ((1, 0), (0, 1)))
        self.assertSame(program_fault(set_and_look(), wrong, 4), ((3, 1),))
        self.assertSame(program_fault(set_and_look(), wrong, hands=10), ((3, 1),))

    def test_hands_without_a_way_to_fault(self):
        last = Foreign((1,), ((SAY,), (SAY,), (SAY,), (("say", 2),)))
        for hands in (1, 2, 3):
            self.assertIs(program_fault(least_book(1, 1), last, hands), None)
        for hands in range(4, 11):
            self.assertSame(program_fault(least_book(1, 1), last, hands), ((3, 0),))

    def test_an_answer_that_no_way_bears(self):
        self.assertSame(program_fault(least_book(3, 2), Foreign((1,), rows_of(SAY, ("say", 1))), 1), ((0, 1),))

    def test_a_long_least_row(self):
        ways = [(state, 0, 0, (state + 1) % 6) for state in range(5)] + [(5, 0, 1, 0)]
        foreign = Foreign((1,), rows_of(SAY))
        self.assertSame(program_fault(Book(6, 1, ways), foreign, 3), ((0, 0),) * 6)

    def test_a_program_keeps_right_behind_any_answer(self):
        self.assertIs(program_fault(full_book(1, 1), Foreign((1,), rows_of(("say", 2)))), None)
        self.assertIs(program_fault(toss_and_show(), Foreign((1,), rows_of(SAY, SAY))), None)
        self.assertSame(program_fault(toss_and_show(), Foreign((1,), rows_of(("say", 1), SAY)), 2), ((0, 0), (0, 1)))


class TestAgainstAllRows(Case):

    def test_foreign_programs(self):
        dice = random.Random(181)
        lengths = {}
        for _ in range(500):
            book = drawn_book(dice, dice.choice((1, 2, 3, 3)), dice.randrange(1, 3), dice.choice((0, 1, 3)))
            program = dice.choice((made_right(dice, book), drawn_foreign(dice, book.calls, 2)))
            hands = 1 + (book.calls == 1)
            wanted = plain_fault(book, program, hands, 5)
            found = program_fault(book, program, hands)
            if wanted is None and found is not None:
                self.assertGreater(len(found), 5)
                self.assertFalse(is_right(book, run_program(program, found).entries))
                self.assertTrue(is_right(book, run_program(program, found[:-1]).entries))
            else:
                self.assertSame(found, wanted)
            if found is not None:
                self.assertTuples(found)
            length = None if found is None else len(found)
            lengths[length] = lengths.get(length, 0) + 1
        self.assertGreater(lengths[None], 50)
        self.assertTrue({1, 2, 3} <= set(lengths), lengths)

    def test_right_for_long_rows(self):
        dice = random.Random(182)
        tried = 0
        for _ in range(80):
            book = drawn_book(dice, 3, 2, 2)
            program = made_right(dice, book)
            if program_fault(book, program, 4) is None:
                asks = [(dice.randrange(10), dice.randrange(2)) for _ in range(200)]
                entries = run_program(program, asks).entries
                self.assertNotEqual(walk_ends(book, (0,), [entry[1:] for entry in entries]), ())
                self.assertIs(program_fault(book, program), None)
                tried += 1
        self.assertGreater(tried, 20)

    def test_programs_of_wishes_are_right(self):
        for wish in had_wishes(183, 80):
            self.assertIs(program_fault(wish.book, UnmetProgram(wish)), None)
        self.assertIs(program_fault(set_and_look(), UnmetProgram(look_wish()), 3), None)

    def test_programs_of_wishes_for_other_books(self):
        other = Book(2, 2, ((0, 0, 0, 1), (0, 1, 0, 0), (1, 0, 1, 1), (1, 1, 1, 1)))
        self.assertSame(program_fault(other, UnmetProgram(look_wish()), 2), ((0, 0), (0, 0)))


class TestErrors(Case):

    def test_unlike_calls_come_first(self):
        for calls in (1, 2, 4):
            book = least_book(2, calls)
            for hands in (1, 0, None):
                self.refuses(UnlikeCalls, {}, program_fault, book, Foreign((1,), rows_of(SAY, SAY, SAY)), hands)
        self.refuses(UnlikeCalls, {}, program_fault, least_book(1, 1), UnmetProgram(look_wish()), 3)

    def test_bad_hands(self):
        for hands in NOT_NUMBERS + (0, 11, -1, 10 ** 100):
            with self.assertRaises(BadHands) as caught:
                program_fault(least_book(1, 1), Climb(5000), hands)
            self.assertIs(caught.exception.hands, hands)

    def test_2000_couples_and_more(self):
        book = least_book(1, 1)
        self.assertIs(program_fault(book, Climb(1999)), None)
        self.refuses(TooMany, {"most": 2000}, program_fault, book, Climb(2000))
        self.refuses(TooMany, {"most": 2000}, program_fault, book, Climb(10 ** 9), 1)

    def test_too_many_even_if_some_history_is_wrong(self):
        book = least_book(1, 1)
        self.assertSame(program_fault(book, Climb(1999, 1), 2), ((1, 0),))
        self.refuses(TooMany, {"most": 2000}, program_fault, book, Climb(2000, 1), 2)

    def test_couples_are_of_cells_and_a_standing(self):
        book = Book(2, 1, ((0, 0, 0, 1), (1, 0, 0, 0)))
        self.assertIs(program_fault(book, Climb(999)), None)
        self.refuses(TooMany, {"most": 2000}, program_fault, book, Climb(1000))
        self.assertIs(program_fault(book, Climb(1000), 1), None)

    def test_what_is_behind_a_wrong_history_does_not_count(self):
        ways = [(state, 0, 0, state + 1) for state in range(5)] + [(5, 0, 1, 0)]
        self.assertSame(program_fault(Book(6, 1, ways), Climb(10 ** 9), 1), ((0, 0),) * 6)
