"""[1.6], and part 0 as far as books beside each other keep it."""

import random

from tests.helper import (NOT_SEQUENCES, Case, as_lists, drawn_books, free_look, full_book, least_book,
                          mixed_forms, set_and_look, toss_and_show, walk_ends)
from unmetcells.besides import beside, parted_history
from unmetcells.errors import BadHistory, TooMany
from unmetcells.histories import calls_of


class TestBeside(Case):

    def test_states_and_calls(self):
        both = beside(toss_and_show(), set_and_look())
        self.assertSame((both.states, both.calls), (6, 4))

    def test_ways_of_a_small_case(self):
        both = beside(full_book(1, 1), least_book(2, 1))
        self.assertSame(both.ways, ((0, 0, 0, 0), (0, 0, 1, 0), (0, 0, 2, 0), (0, 1, 0, 0),
                                    (1, 0, 0, 1), (1, 0, 1, 1), (1, 0, 2, 1), (1, 1, 0, 0)))

    def test_each_state_is_a_couple(self):
        for one, other in fitting_couples(11):
            wanted = set()
            for a in range(one.states):
                for b in range(other.states):
                    for call in range(one.calls):
                        for answer, after in one.steps_from(a, call):
                            wanted.add((a * other.states + b, call, answer, after * other.states + b))
                    for call in range(other.calls):
                        for answer, after in other.steps_from(b, call):
                            wanted.add((a * other.states + b, one.calls + call, answer, a * other.states + after))
            self.assertSame(beside(one, other).ways, tuple(sorted(wanted)))

    def test_6_and_7_states(self):
        self.assertSame(beside(least_book(6, 1), least_book(1, 1)).states, 6)
        self.assertSame(beside(least_book(3, 1), least_book(2, 1)).states, 6)
        for one, other in ((2, 4), (4, 2), (3, 3), (6, 6), (6, 2)):
            self.refuses(TooMany, {"most": 6}, beside, least_book(one, 1), least_book(other, 1))

    def test_4_and_5_calls(self):
        self.assertSame(beside(least_book(1, 3), least_book(1, 1)).calls, 4)
        self.assertSame(beside(least_book(1, 2), least_book(1, 2)).calls, 4)
        for one, other in ((1, 4), (4, 1), (2, 3), (4, 4)):
            self.refuses(TooMany, {"most": 4}, beside, least_book(1, one), least_book(1, other))

    def test_states_come_before_calls(self):
        self.refuses(TooMany, {"most": 6}, beside, least_book(4, 4), least_book(2, 1))

    def test_the_books_stay(self):
        one, other = set_and_look(), free_look()
        beside(one, other)
        self.assertEqual((one, other), (set_and_look(), free_look()))


class TestPartedHistory(Case):

    def test_parts(self):
        history = ((0, 0, 0), (1, 2, 1), (2, 3, 0), (0, 1, 2), (9, 2, 0))
        for form in mixed_forms(history):
            self.assertSame(parted_history(toss_and_show(), set_and_look(), form),
                            (((0, 0, 0), (0, 1, 2)), ((1, 0, 1), (2, 1, 0), (9, 0, 0))))

    def test_bare_parts(self):
        self.assertSame(parted_history(set_and_look(), free_look(), ()), ((), ()))
        self.assertSame(parted_history(set_and_look(), free_look(), [[0, 0, 0]]), (((0, 0, 0),), ()))
        self.assertSame(parted_history(set_and_look(), free_look(), [[0, 2, 0]]), ((), ((0, 0, 0),)))

    def test_too_many_comes_first(self):
        self.refuses(TooMany, {"most": 6}, parted_history, least_book(4, 4), least_book(2, 4), None)
        self.refuses(TooMany, {"most": 4}, parted_history, least_book(1, 4), least_book(1, 1), None)

    def test_bad_history(self):
        one, other = set_and_look(), least_book(1, 1)
        for history in NOT_SEQUENCES:
            self.refuses(BadHistory, {"index": 0}, parted_history, one, other, history)
        self.assertSame(parted_history(one, other, ((0, 2, 0),)), ((), ((0, 0, 0),)))
        for entry in ((0, 3, 0), (10, 0, 0), (0, 0, 3), (0, True, 0), (0, 0), None, "000"):
            self.refuses(BadHistory, {"index": 1}, parted_history, one, other, ((0, 2, 0), entry, None))
        self.assertSame(parted_history(one, other, ((0, 2, 0),) * 400), ((), ((0, 0, 0),) * 400))
        self.refuses(BadHistory, {"index": 401}, parted_history, one, other, ((0, 2, 0),) * 401)

    def test_right_exactly_if_both_parts_are(self):
        dice = random.Random(12)
        for one, other in fitting_couples(13):
            both = beside(one, other)
            for _ in range(40):
                history = [(dice.randrange(10), dice.randrange(both.calls), dice.choice(both.answers))
                           for _ in range(dice.randrange(5))]
                ahead, behind = parted_history(one, other, history)
                right = bool(walk_ends(both, (0,), calls_of(history)))
                parts = (walk_ends(one, (0,), calls_of(ahead)), walk_ends(other, (0,), calls_of(behind)))
                self.assertIs(right, all(parts))

    def test_what_is_passed_stays_and_may_change_later(self):
        history = [[0, 0, 0], [1, 2, 1]]
        parts = parted_history(set_and_look(), free_look(), history)
        self.assertSame(history, as_lists(((0, 0, 0), (1, 2, 1))))
        history[0][0] = 5
        history[1][0] = 5
        self.assertSame(parts, (((0, 0, 0),), ((1, 0, 1),)))


def fitting_couples(seed):
    """Couples of books that may stand beside each other."""
    books = drawn_books(seed, 24, 3, 2)
    couples = zip(books[::2], books[1::2])
    return [(one, other) for one, other in couples if one.states * other.states <= 6]
