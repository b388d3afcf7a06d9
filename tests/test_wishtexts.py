"""[3.17] and [3.18]."""

import re

from tests.helper import (NOT_TEXTS, TOSS_SCRIPTS, Case, changed_texts, drawn_wishes, full_book, full_script, least_book,
                          likely_wishes, set_and_look, toss_and_show)
from unmetcells.booktexts import book_text, read_book, read_history
from unmetcells.errors import BadText, TooMany
from unmetcells.scripts import Wish
from unmetcells.standings import is_right
from unmetcells.wishtexts import read_wish, wish_text

SCRIPT = ((0, 0, ((0, 1, ()), (1, 2, ((1, 0, ()),)))), (1, 1, ()))
SCRIPTS = (SCRIPT, (), ((1, 0, ((0, 0, ()),)),))
SAMPLE_LINES = ("past 0:0>0 5:0>1", "hand 0", "0>0", "0 0>1", "0 1>2", "0 1 1>0", "1>1", "hand 1", "hand 2", "1>0", "1 0>0")


def sample():
    return Wish(toss_and_show(), ((0, 0, 0), (5, 0, 1)), SCRIPTS)


def joined(*lines):
    return "\n".join(lines)


def plain_fault(text):
    """The number of the first line that is wrong, found line by line; None if no line is."""
    lines = text.split("\n")
    ahead = [line for line in lines if line == "past" or line.startswith("past ")]
    place = lines.index(ahead[0]) if ahead else len(lines)
    try:
        book = read_book("\n".join(lines[:place]))
    except BadText as error:
        return error.place
    if not ahead:
        return place
    if lines[place] != "past":
        try:
            past = read_history(book, lines[place][5:])
        except BadText:
            return place
        if not 1 <= len(past) <= 6 or not is_right(book, past):
            return place
    hands, turns = 0, None
    for at in range(place + 1, len(lines)):
        if lines[at] == "hand " + str(hands) and hands < 3:
            hands, turns = hands + 1, [()]
            continue
        if turns is None or not re.fullmatch("([0-3] ){0,2}[0-3]>[0-2]", lines[at]):
            return at
        turn = tuple(int(word) for word in lines[at][:-2].split(" "))
        if max(turn) >= book.calls or turn[:-1] not in turns or turn <= turns[-1]:
            return at
        turns.append(turn)
    return None if hands else len(lines)


class TestWishText(Case):

    def test_sample(self):
        self.assertSame(wish_text(sample()), joined(book_text(toss_and_show()), *SAMPLE_LINES))

    def test_bare_past_and_bare_scripts(self):
        wish = Wish(least_book(1, 1), (), ((),))
        self.assertSame(wish_text(wish), joined("book 1 1", "0 0 0 0", "past", "hand 0"))
        wish = Wish(set_and_look(), (), ((), ((1, 0, ()),)))
        self.assertSame(wish_text(wish), joined(book_text(set_and_look()), "past", "hand 0", "hand 1", "1>0"))

    def test_what_is_written_is_read_back(self):
        wishes = drawn_wishes(101, 120) + likely_wishes(102, 80) + [sample()]
        wishes.append(Wish(full_book(6, 4), ((9, 3, 2),) * 6, (full_script(4, 3), ((3, 0, ()),))))
        for wish in wishes:
            text = wish_text(wish)
            found = read_wish(text)
            self.assertEqual(found, wish)
            self.assertTuples((found.past, found.scripts, found.book.ways))
            self.assertSame(wish_text(found), text)


class TestReadWish(Case):

    def refused(self, place, text):
        self.refuses(BadText, {"place": place}, read_wish, text)

    def test_sample(self):
        self.assertEqual(read_wish(joined(book_text(toss_and_show()), *SAMPLE_LINES)), sample())

    def test_no_text(self):
        for thing in NOT_TEXTS:
            self.refused(0, thing)
        self.refused(0, wish_text(sample()).encode())
        self.refused(0, wish_text(sample()).split("\n"))

    def test_lines_of_the_book(self):
        lines = wish_text(sample()).split("\n")
        for at in range(1, 10):
            self.refused(at, joined(*lines[:at], lines[at] + " ", *lines[at + 1:]))
            self.refused(at, joined(*lines[:at], "0 0 0 3", *lines[at + 1:]))
            if at > 1:
                self.refused(at, joined(*lines[:at], lines[at - 1], *lines[at:]))
        self.refused(0, joined("book 3", *lines[1:]))
        self.refused(0, joined("", *lines))

    def test_lacking_ways(self):
        self.refused(2, joined("book 2 1", "0 0 0 0", "past", "hand 0"))
        self.refused(2, joined("book 2 1", "0 0 0 0", "past what", "so"))
        self.refused(2, joined("book 2 1", "0 0 0 0"))
        self.refused(1, joined("book 1 1", "past", "hand 0"))
        self.refused(2, joined("book 2 1", "0 0 0 0", "1 0 0 2", "past"))

    def test_no_line_ahead_of_the_past(self):
        for text in ("past", "past 0:0>0", joined("past", "book 1 1", "0 0 0 0"), joined("past ", "hand 0")):
            self.refused(0, text)

    def test_no_past(self):
        for wish in (sample(), Wish(least_book(1, 1), (), ((),))):
            lines = book_text(wish.book).split("\n")
            self.refused(len(lines), joined(*lines))
            for word in ("Past", "pas", "past0:0>0", " past", "hand 0", "", "past\t"):
                self.refused(len(lines), joined(*lines, word))
                self.refused(len(lines), joined(*lines, word, "hand 0"))
        self.refused(0, "")

    def test_wrong_past(self):
        lines = book_text(toss_and_show()).split("\n")
        for past in ("past ", "past  ", "past  0:0>0", "past 0:0>0 ", "past 0:0>0  0:0>0", "past 0:2>0", "past 0:0>3",
                     "past 10:0>0", "past 0:0", "past x", "past 0:1>1", "past 0:0>0 0:1>1", "past 0:0>2",
                     "past " + " ".join(["0:0>0"] * 7), "past " + " ".join(["0:0>0"] * 401), "past past"):
            self.refused(len(lines), joined(*lines, past, "hand 0"))
            self.refused(len(lines), joined(*lines, past, "wrong"))
        good = "past " + " ".join(["0:0>0"] * 6)
        self.assertSame(read_wish(joined(*lines, good, "hand 0")).past, ((0, 0, 0),) * 6)

    def test_the_first_past_counts(self):
        lines = book_text(toss_and_show()).split("\n")
        self.refused(len(lines) + 1, joined(*lines, "past", "past", "hand 0"))
        self.refused(len(lines) + 2, joined(*lines, "past", "hand 0", "past 0:0>0"))
        self.refused(3, joined(*lines[:3], "past", *lines[3:], "past", "hand 0"))

    def test_lines_of_hands(self):
        head = book_text(toss_and_show()).split("\n") + ["past"]
        for rows, at in ((["hand 1"], 0), (["hand 0", "hand 0"], 1), (["hand 0", "hand 2"], 1), (["hand"], 0), (["hand 0 "], 0),
                         ([" hand 0"], 0), (["hand  0"], 0), (["Hand 0"], 0), (["hand 00"], 0), (["0>0"], 0), ([""], 0),
                         (["hand 0", "hand 1", "hand 2", "hand 3"], 3), (["hand 0", ""], 1), (["hand -1"], 0)):
            self.refused(len(head) + at, joined(*head, *rows))
        for hands in (1, 2, 3):
            found = read_wish(joined(*head, *[f"hand {hand}" for hand in range(hands)]))
            self.assertSame(found.scripts, ((),) * hands)

    def test_no_hand(self):
        head = book_text(toss_and_show()).split("\n") + ["past"]
        self.refused(len(head), joined(*head))

    def test_form_of_rows(self):
        head = book_text(toss_and_show()).split("\n") + ["past", "hand 0", "0>0", "0 1>0", "0 1 1>0"]
        for row in ("0", "1", "1>", ">0", "1>3", "1>-1", "2>0", "-1>0", "1>0 ", " 1>0", "1 >0", "1> 0", "1>>0", "1>0>0", "1  0>0",
                    "1,0>0", "01>0", "1>00", "1:0>0", "0 1 1 1>0", "0 1 1 0>0", "1>a", "a>1", "", " ", "1\t", "1>0\t", "\u0661>0",
                    "1>\u0660"):
            self.refused(len(head), joined(*head, row))
            self.refused(len(head), joined(*head, row, "hand 1"))
        self.assertSame(read_wish(joined(*head, "1>2")).scripts, (((0, 0, ((1, 0, ((1, 0, ()),)),)), (1, 2, ())),))

    def test_order_of_rows(self):
        head = book_text(toss_and_show()).split("\n") + ["past", "hand 0"]
        for rows, at in ((["0 0>0"], 0), (["0>0", "0>0"], 1), (["0>0", "0>1"], 1), (["1>0", "0>0"], 1), (["0>0", "1 0>0"], 1),
                         (["0>0", "0 1>0", "0 0>0"], 2), (["0>0", "1>0", "0 0>0"], 2), (["0>0", "0 0 0>0"], 1),
                         (["0>0", "0 1>0", "0 0 0>0"], 2), (["0>0", "0 0>0", "0 1 0>0"], 2)):
            self.refused(len(head) + at, joined(*head, *rows))
            self.refused(len(head) + at, joined(*head, *rows, "wrong"))

    def test_each_hand_begins_anew(self):
        head = book_text(toss_and_show()).split("\n") + ["past", "hand 0", "0>0", "1>0", "hand 1"]
        self.assertSame(read_wish(joined(*head, "0>1")).scripts, (((0, 0, ()), (1, 0, ())), ((0, 1, ()),)))
        self.refused(len(head), joined(*head, "0 0>0"))

    def test_line_feeds(self):
        text = wish_text(sample())
        many = len(text.split("\n"))
        self.refused(many, text + "\n")
        self.refused(0, "\n" + text)
        self.refused(0, text.replace("\n", "\r\n"))
        self.refused(0, text.replace("\n", "\r"))
        self.refused(many - 1, text + "\r")

    def test_more_than_200_cuts(self):
        book = full_book(1, 4)
        four = full_script(4, 1)
        eight = ((0, 0, full_script(3, 1)),) + four[1:]
        lines = wish_text(Wish(book, (), (four, eight, four)))
        self.assertEqual(read_wish(lines), Wish(book, (), (four, eight, four)))
        self.refuses(TooMany, {"most": 200}, read_wish, lines + "\n3 0>0")
        self.refuses(TooMany, {"most": 200}, read_wish, lines.replace("hand 2", "3 3>1\nhand 2"))
        self.refused(len(lines.split("\n")) + 1, lines + "\n3 0>0\n3 0>0")

    def test_an_answer_that_no_way_bears_is_let(self):
        wish = Wish(least_book(1, 1), (), (((0, 2, ()),),))
        self.assertEqual(read_wish(wish_text(wish)), wish)

    def test_changed_texts(self):
        small = Wish(set_and_look(), ((3, 0, 0),), (((0, 0, ((1, 1, ()),)), (1, 1, ())), ((1, 1, ()),)))
        bare = Wish(least_book(1, 2), (), (((0, 0, ((0, 0, ()), (1, 0, ()))),),))
        read, wrong = 0, set()
        for wish in (small, bare, Wish(toss_and_show(), (), TOSS_SCRIPTS)):
            for text in changed_texts(wish_text(wish), "0123 >:\nhpx"):
                place = plain_fault(text)
                if place is None:
                    self.assertSame(wish_text(read_wish(text)), text)
                    read += 1
                else:
                    self.refused(place, text)
                    wrong.add(place)
        self.assertGreater(read, 50)
        self.assertGreater(len(wrong), 10)
