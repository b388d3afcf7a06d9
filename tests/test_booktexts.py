"""[1.7] to [1.9]."""

import random
import re

from tests.helper import (NOT_TEXTS, Case, as_lists, changed_texts, drawn_books, full_book, least_book,
                          mixed_forms, set_and_look, toss_and_show)
from unmetcells.books import Book
from unmetcells.booktexts import book_text, history_text, read_book, read_history
from unmetcells.errors import BadText
from unmetcells.standings import is_right

HISTORY = ((2, 0, 1), (0, 1, 0), (9, 1, 2))


def wrong_line(text):
    """The place of the first wrong line of the text of a book, or None if it is one."""
    lines = text.split("\n")
    first = re.fullmatch("book ([1-6]) ([1-4])", lines[0])
    if first is None:
        return 0
    states, calls = int(first[1]), int(first[2])
    row = re.compile(f"[0-{states - 1}] [0-{calls - 1}] [0-2] [0-{states - 1}]")
    for place in range(1, len(lines)):
        if row.fullmatch(lines[place]) is None or place > 1 and lines[place] <= lines[place - 1]:
            return place
    if len({line[:3] for line in lines[1:]}) < states * calls:
        return len(lines)
    return None


def wrong_word(calls, text):
    """The place of the first wrong word of the text of a history, or None if it is one."""
    if text == "":
        return None
    words = text.split(" ")
    if len(words) > 400:
        return 400
    for place, word in enumerate(words):
        if re.fullmatch(f"[0-9]:[0-{calls - 1}]>[0-2]", word) is None:
            return place
    return None


class TestBookText(Case):

    def test_text(self):
        self.assertSame(book_text(Book(2, 1, ((1, 0, 2, 1), (0, 0, 1, 1), (0, 0, 1, 0)))),
                        "book 2 1\n0 0 1 0\n0 0 1 1\n1 0 2 1")
        self.assertSame(book_text(least_book(1, 1)), "book 1 1\n0 0 0 0")

    def test_example(self):
        text = book_text(toss_and_show())
        self.assertSame(text.split("\n")[:2], ["book 3 2", "0 0 0 1"])
        self.assertEqual(len(text.split("\n")), 10)

    def test_read_back(self):
        for book in drawn_books(20, 60, 6, 4) + [full_book(6, 4), full_book(1, 1), least_book(6, 4)]:
            self.assertEqual(read_book(book_text(book)), book)
            self.assertSame(book_text(read_book(book_text(book))), book_text(book))


class TestReadBook(Case):

    def refused(self, place, text):
        self.refuses(BadText, {"place": place}, read_book, text)

    def test_no_text(self):
        for thing in NOT_TEXTS:
            self.refused(0, thing)

    def test_first_line(self):
        for line in ("", "book", "book 1", "book 1 1 ", " book 1 1", "book  1 1", "book 1  1", "Book 1 1", "book 0 1",
                     "book 7 1", "book 1 0", "book 1 5", "book 11 1", "book 01 1", "book +1 1", "book 1 1 1",
                     "book -1 1", "book 1.0 1", "book\t1 1", "book 1 1\r", "book a 1", "bok 1 1", "1 1", "0 0 0 0",
                     "book \u0661 1", "book \u00b2 1", "book 1 \u00b9", "book  1"):
            self.refused(0, line)
            self.refused(0, line + "\n0 0 0 0")
            self.refused(0, line + "\nx")

    def test_later_line(self):
        for line in ("", " ", "0", "0 0", "0 0 0", "0 0 0 0 0", "0 0 0 0 ", " 0 0 0 0", "0  0 0 0", "0 0 0 00", "00 0 0 0",
                     "2 0 0 0", "0 2 0 0", "0 0 3 0", "0 0 0 2", "a 0 0 0", "-1 0 0 0", "0 0 0 -", "0,0,0,0", "0\t0 0 0",
                     "0 0 0 0\r", "0 0 0 \u0660", "0 0 0 \u00b9", "book 2 2", "0 0 0 9"):
            self.refused(1, "book 2 2\n" + line)
            self.refused(2, "book 2 2\n0 0 0 0\n" + line)
            self.refused(2, "book 2 2\n0 0 0 0\n" + line + "\nx")

    def test_ways_ascend(self):
        self.refused(2, "book 1 1\n0 0 1 0\n0 0 0 0")
        self.refused(2, "book 1 1\n0 0 1 0\n0 0 1 0")
        self.refused(3, "book 2 1\n0 0 1 0\n1 0 1 0\n0 0 1 1")

    def test_lacking(self):
        self.refused(1, "book 1 1")
        self.refused(2, "book 1 2\n0 0 0 0")
        self.refused(2, "book 1 2\n0 1 0 0")
        self.refused(4, "book 2 1\n0 0 0 0\n0 0 0 1\n0 0 1 0")
        # The last state and call have 18 ways.
        self.assertEqual(len(read_book(text_without_ways(17))), 415)
        self.refused(415, text_without_ways(18))

    def test_no_line_feed_at_the_end(self):
        self.refused(2, "book 1 1\n0 0 0 0\n")
        self.refused(1, "book 1 1\n")

    def test_changed_texts(self):
        for book in (toss_and_show(), set_and_look(), Book(1, 1, ((0, 0, 1, 0), (0, 0, 2, 0)))):
            for text in changed_texts(book_text(book), "0123456789 \nbk-x"):
                place = wrong_line(text)
                if place is None:
                    self.assertSame(book_text(read_book(text)), text)
                else:
                    self.refused(place, text)


def text_without_ways(gone):
    """The text of the full book without its last ways, so many of them."""
    lines = book_text(full_book(6, 4)).split("\n")
    return "\n".join(lines[:-gone])


class TestHistoryText(Case):

    def test_text(self):
        for history in mixed_forms(HISTORY):
            self.assertSame(history_text(history), "2:0>1 0:1>0 9:1>2")
        self.assertSame(history_text(((2, 0, 1),)), "2:0>1")

    def test_empty_history(self):
        self.assertSame(history_text(()), "")
        self.assertSame(history_text([]), "")
        self.assertSame(read_history(toss_and_show(), ""), ())

    def test_form_is_not_checked(self):
        self.assertSame(history_text(((12, 5, 3),) * 2), "12:5>3 12:5>3")
        self.assertEqual(len(history_text(((0, 0, 0),) * 401).split(" ")), 401)

    def test_read_back(self):
        dice = random.Random(21)
        for calls in (1, 2, 4):
            for length in (0, 1, 2, 7, 400):
                history = tuple((dice.randrange(10), dice.randrange(calls), dice.randrange(3)) for _ in range(length))
                self.assertSame(read_history(full_book(1, calls), history_text(history)), history)

    def test_what_is_passed_stays(self):
        history = as_lists(HISTORY)
        history_text(history)
        self.assertSame(history, as_lists(HISTORY))

    def test_example(self):
        right = read_history(toss_and_show(), "0:0>0 1:0>1 0:1>1")
        self.assertSame(right, ((0, 0, 0), (1, 0, 1), (0, 1, 1)))
        self.assertIs(is_right(toss_and_show(), right), True)
        self.assertIs(is_right(toss_and_show(), read_history(toss_and_show(), "0:0>1 1:1>0")), False)


class TestReadHistory(Case):

    def refused(self, place, text, book=None):
        self.refuses(BadText, {"place": place}, read_history, book or toss_and_show(), text)

    def test_no_text(self):
        for thing in NOT_TEXTS:
            self.refused(0, thing)

    def test_400_words_and_401(self):
        self.assertSame(read_history(toss_and_show(), " ".join(["0:0>0"] * 400)), ((0, 0, 0),) * 400)
        self.refused(400, " ".join(["0:0>0"] * 401))
        self.refused(400, " ".join(["x"] * 401))
        self.refused(400, " " * 400)
        self.refused(0, " " * 399)
        self.refused(399, "0:0>0 " * 399)
        self.refused(400, "0:0>0 " * 400)

    def test_first_wrong_word(self):
        for word in ("", "0", "0:0", "0:0>", ":0>0", "0:>0", "0:0>00", "00:0>0", "10:0>0", "0:0>3", "0:2>0", "0:0<0", "0;0>0",
                     "0>0:0", "0:0>-", "a:0>0", "0:0>0\n", "0:0>0\t", "\u0660:0>0", "0:0>\u00b9", "0:-1>0", "0.0>0"):
            self.refused(1, "9:1>2 " + word + " x")
            self.refused(2, "9:1>2 9:1>2 " + word)
            self.refused(0, word + " 0:0>0")

    def test_blanks(self):
        self.refused(0, " ")
        self.refused(0, " 0:0>0")
        self.refused(1, "0:0>0 ")
        self.refused(1, "0:0>0  0:0>0")
        self.refused(0, "0:0>0\n0:0>0")

    def test_calls_are_those_of_the_book(self):
        self.assertSame(read_history(full_book(1, 4), "0:3>0"), ((0, 3, 0),))
        self.refused(0, "0:1>0", full_book(1, 1))

    def test_changed_texts(self):
        for history in (HISTORY, ((0, 0, 0),)):
            for text in changed_texts(history_text(history), "0123456789 \n:>x"):
                place = wrong_word(2, text)
                if place is None:
                    self.assertSame(history_text(read_history(toss_and_show(), text)), text)
                else:
                    self.refused(place, text)
