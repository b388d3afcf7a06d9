"""[2.1] to [2.5]."""

import random

from tests.helper import (NOT_NUMBERS, NOT_SEQUENCES, Case, all_standings, as_lists, drawn_books, full_book,
                          least_book, mixed_forms, set_and_look, toss_and_show, trails_of, walk_ends)
from unmetcells.books import Book
from unmetcells.errors import BadAnswer, BadCall, BadHistory, BadStanding, BadTrail
from unmetcells.standings import (answers_at, check_standing, check_trail, is_plain, is_right, onward, onward_trail,
                                  standing_of, wrong_at)

# Things that are no standing of a book with three states.
NOT_STANDINGS = NOT_SEQUENCES + ((0, 0), (1, 0), (0, 2, 1), (3,), (0, 3), (-1,), (-1, 0), ((0,),), ((),), (None,), ("0",),
                                 (True,), (False,), (0, True), (1.0,), [0, 1, 1], (10 ** 100,), (0, 1, 2, 3))


def drawn_histories(seed):
    """Couples of a book and a history for it, some of them right."""
    dice = random.Random(seed)
    for book in drawn_books(seed, 30, 4, 3):
        for _ in range(10):
            length = dice.randrange(6)
            yield book, tuple((dice.randrange(10), dice.randrange(book.calls), dice.choice(book.answers))
                              for _ in range(length))


class TestCheckStanding(Case):

    def test_all_standings(self):
        for states in (1, 3, 6):
            book = least_book(states, 1)
            for standing in all_standings(book):
                self.assertSame(check_standing(book, standing), standing)
                self.assertSame(check_standing(book, list(standing)), standing)

    def test_refused(self):
        for thing in NOT_STANDINGS:
            self.refuses(BadStanding, {}, check_standing, toss_and_show(), thing)
        self.refuses(BadStanding, {}, check_standing, least_book(1, 1), (1,))
        self.refuses(BadStanding, {}, check_standing, least_book(6, 1), (6,))
        for thing in NOT_NUMBERS:
            self.refuses(BadStanding, {}, check_standing, toss_and_show(), (thing,))

    def test_later_changes(self):
        standing = [0, 2]
        checked = check_standing(toss_and_show(), standing)
        self.assertSame(standing, [0, 2])
        standing.append(1)
        self.assertSame(checked, (0, 2))


class TestHistories(Case):

    def test_bare_history(self):
        for history in ((), []):
            self.assertSame(standing_of(toss_and_show(), history), (0,))
            self.assertIs(is_right(toss_and_show(), history), True)
            self.assertIs(wrong_at(toss_and_show(), history), None)

    def test_toss_and_show(self):
        right = ((0, 0, 0), (1, 0, 1), (0, 1, 1))
        wrong = ((0, 0, 1), (1, 1, 0), (0, 0, 0))
        for form in mixed_forms(right):
            self.assertSame(standing_of(toss_and_show(), form), (2,))
            self.assertIs(is_right(toss_and_show(), form), True)
            self.assertIs(wrong_at(toss_and_show(), form), None)
        for form in mixed_forms(wrong):
            self.assertSame(standing_of(toss_and_show(), form), ())
            self.assertIs(is_right(toss_and_show(), form), False)
            self.assertSame(wrong_at(toss_and_show(), form), 1)

    def test_against_all_walks(self):
        for book, history in drawn_histories(30):
            ends = [walk_ends(book, (0,), [entry[1:] for entry in history[:k]]) for k in range(len(history) + 1)]
            self.assertSame(standing_of(book, history), ends[-1])
            self.assertIs(is_right(book, history), ends[-1] != ())
            self.assertSame(wrong_at(book, history), ends.index(()) - 1 if () in ends else None)

    def test_hands_do_not_matter(self):
        for book, history in drawn_histories(31):
            other = tuple((9 - hand, call, answer) for hand, call, answer in history)
            self.assertSame(standing_of(book, history), standing_of(book, other))

    def test_several_ends(self):
        book = Book(3, 1, ((0, 0, 0, 2), (0, 0, 0, 0), (0, 0, 1, 1), (1, 0, 0, 0), (2, 0, 0, 0)))
        self.assertSame(standing_of(book, ((0, 0, 0),)), (0, 2))
        self.assertSame(standing_of(book, ((0, 0, 0), (0, 0, 1))), (1,))

    def test_400_entries_and_401(self):
        book = full_book(6, 4)
        for ask, wanted in ((standing_of, (0, 1, 2, 3, 4, 5)), (is_right, True), (wrong_at, None)):
            self.assertSame(ask(book, ((0, 3, 2),) * 400), wanted)
            self.refuses(BadHistory, {"index": 401}, ask, book, ((0, 3, 2),) * 401)

    def test_errors(self):
        for ask in (standing_of, is_right, wrong_at):
            for thing in NOT_SEQUENCES:
                self.refuses(BadHistory, {"index": 0}, ask, toss_and_show(), thing)
            for entry in ((0, 2, 0), (10, 0, 0), (0, 0, 3), (0, 0), None, (True, 0, 0), (0, 0, 1.0)):
                self.refuses(BadHistory, {"index": 2}, ask, toss_and_show(), [(0, 0, 2), (0, 0, 2), entry, None])


class TestOnward(Case):

    def test_against_all_ways(self):
        for book in drawn_books(32, 30, 4, 3) + [full_book(6, 4), least_book(1, 1)]:
            for standing in all_standings(book):
                for call in range(book.calls):
                    ends = [walk_ends(book, standing, ((call, answer),)) for answer in range(3)]
                    wanted = tuple(answer for answer in range(3) if ends[answer])
                    for form in (standing, list(standing)):
                        self.assertSame(answers_at(book, form, call), wanted)
                        for answer in range(3):
                            self.assertSame(onward(book, form, call, answer), ends[answer])

    def test_bare_standing(self):
        self.assertSame(onward(full_book(2, 2), (), 0, 0), ())
        self.assertSame(answers_at(full_book(2, 2), (), 1), ())

    def test_answer_that_no_way_bears(self):
        self.assertSame(onward(toss_and_show(), (0, 1, 2), 0, 2), ())
        self.assertSame(answers_at(toss_and_show(), [0, 1, 2], 0), (0, 1))

    def test_bad_standing(self):
        for thing in NOT_STANDINGS:
            self.refuses(BadStanding, {}, onward, toss_and_show(), thing, 5, 5)
            self.refuses(BadStanding, {}, answers_at, toss_and_show(), thing, 5)

    def test_bad_call(self):
        for thing in NOT_NUMBERS + (2, -1, 10 ** 100):
            self.refuses(BadCall, {}, onward, toss_and_show(), (0,), thing, 5)
            self.refuses(BadCall, {}, answers_at, toss_and_show(), (0,), thing)

    def test_bad_answer(self):
        for thing in NOT_NUMBERS + (3, -1, 10 ** 100):
            self.refuses(BadAnswer, {}, onward, toss_and_show(), (0,), 1, thing)


class TestTrails(Case):

    TRAIL = ((0, 1), (1, 1), (0, 0))

    def test_check_trail(self):
        for form in mixed_forms(self.TRAIL):
            self.assertSame(check_trail(toss_and_show(), form), self.TRAIL)
        self.assertSame(check_trail(toss_and_show(), []), ())

    def test_onward_trail(self):
        for form in mixed_forms(self.TRAIL):
            self.assertSame(onward_trail(toss_and_show(), (0,), form), (1,))
            self.assertSame(onward_trail(toss_and_show(), [], form), ())
        self.assertSame(onward_trail(toss_and_show(), (0,), ((0, 1), (1, 0))), ())

    def test_bare_trail(self):
        for standing in all_standings(toss_and_show()):
            self.assertSame(onward_trail(toss_and_show(), standing, ()), standing)
            self.assertSame(onward_trail(toss_and_show(), list(standing), []), standing)

    def test_against_all_walks(self):
        for book in drawn_books(33, 12, 3, 2):
            for standing in all_standings(book):
                for trail in trails_of(book.calls, 2):
                    self.assertSame(onward_trail(book, standing, trail), walk_ends(book, standing, trail))

    def test_follows_as_the_longer_history(self):
        for book, history in drawn_histories(34):
            trail = tuple(entry[1:] for entry in history[2:])
            behind = onward_trail(book, standing_of(book, history[:2]), trail)
            self.assertIs(is_right(book, history), behind != ())

    def test_400_couples_and_401(self):
        self.assertSame(check_trail(full_book(2, 2), [[1, 2]] * 400), ((1, 2),) * 400)
        self.assertSame(onward_trail(full_book(2, 2), (0,), ((1, 2),) * 400), (0, 1))
        for trail in (((1, 2),) * 401, [None] * 401):
            self.refuses(BadTrail, {"index": 401}, check_trail, full_book(2, 2), trail)
            self.refuses(BadTrail, {"index": 401}, onward_trail, full_book(2, 2), (0,), trail)

    def test_bad_trail(self):
        for thing in NOT_SEQUENCES:
            self.refuses(BadTrail, {"index": 0}, check_trail, toss_and_show(), thing)
            self.refuses(BadTrail, {"index": 0}, onward_trail, toss_and_show(), (), thing)
        wrong = [(), (0,), (0, 0, 0), (2, 0), (-1, 0), (0, 3), (0, -1), None, "00", {0: 0, 1: 0}, {0, 1}, 0]
        wrong += [(thing, 0) for thing in NOT_NUMBERS] + [[0, thing] for thing in NOT_NUMBERS]
        for couple in wrong:
            trail = [(0, 0), (1, 2), couple, None]
            self.refuses(BadTrail, {"index": 2}, check_trail, toss_and_show(), trail)
            self.refuses(BadTrail, {"index": 2}, onward_trail, toss_and_show(), (0,), tuple(trail))

    def test_standing_comes_before_trail(self):
        for thing in NOT_STANDINGS:
            self.refuses(BadStanding, {}, onward_trail, toss_and_show(), thing, None)

    def test_what_is_passed_stays_and_may_change_later(self):
        trail = as_lists(self.TRAIL)
        checked = check_trail(toss_and_show(), trail)
        onward_trail(toss_and_show(), [0], trail)
        self.assertSame(trail, as_lists(self.TRAIL))
        trail[0][0] = 7
        self.assertSame(checked, self.TRAIL)


class TestPlain(Case):

    def test_plain(self):
        for book in (set_and_look(), least_book(1, 1), least_book(6, 4)):
            self.assertIs(is_plain(book), True)
        for book in (toss_and_show(), full_book(1, 1), set_and_look().with_way((1, 1, 1, 0))):
            self.assertIs(is_plain(book), False)
