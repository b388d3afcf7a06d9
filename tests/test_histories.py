"""[1.4] and [1.5], and part 0 as far as histories keep it."""

from tests.helper import NOT_NUMBERS, NOT_SEQUENCES, Case, as_lists, full_book, mixed_forms, toss_and_show
from unmetcells.errors import BadHistory
from unmetcells.histories import asks_made, calls_of, check_history, hands_of, part_of

HISTORY = ((3, 0, 0), (0, 1, 1), (3, 1, 2), (9, 0, 1), (0, 0, 0), (3, 0, 0))


class TestCheckHistory(Case):

    def refused(self, index, history, book=None):
        self.refuses(BadHistory, {"index": index}, check_history, book or toss_and_show(), history)

    def test_it_is_returned_as_tuples(self):
        for history in mixed_forms(HISTORY):
            self.assertSame(check_history(toss_and_show(), history), HISTORY)

    def test_bare_history(self):
        self.assertSame(check_history(toss_and_show(), ()), ())
        self.assertSame(check_history(toss_and_show(), []), ())

    def test_all_entries_in_range(self):
        for calls in (1, 4):
            book = full_book(1, calls)
            entries = tuple((hand, call, answer) for hand in range(10) for call in range(calls)
                            for answer in range(3))
            self.assertSame(check_history(book, entries), entries)

    def test_it_need_not_be_right(self):
        self.assertSame(check_history(toss_and_show(), ((0, 1, 2), (0, 1, 2))), ((0, 1, 2), (0, 1, 2)))

    def test_no_sequence(self):
        for history in NOT_SEQUENCES + (iter(HISTORY), dict.fromkeys(HISTORY)):
            self.refused(0, history)

    def test_400_entries_and_401(self):
        for entry in ((0, 0, 0), [0, 0, 0]):
            self.assertSame(check_history(toss_and_show(), [entry] * 400), ((0, 0, 0),) * 400)
            self.refused(401, [entry] * 401)
            self.refused(450, (entry,) * 450)

    def test_too_long_comes_before_wrong_items(self):
        self.refused(401, [None] + [(0, 0, 0)] * 400)
        self.refused(401, ["x"] * 401)

    def test_first_item_that_is_no_entry(self):
        for wrong in NOT_SEQUENCES + ((), (0,), (0, 0), (0, 0, 0, 0), (10, 0, 0), (-1, 0, 0), (0, 2, 0), (0, -1, 0),
                                      (0, 0, 3), (0, 0, -1), (10 ** 100, 0, 0), ((0, 0, 0),)):
            for index in (0, 2, 5):
                history = list(HISTORY)
                history[index] = wrong
                self.refused(index, history)
                self.refused(index, tuple(history) + (None,))
        self.refused(399, [(0, 0, 0)] * 399 + [(0, 0, 3)])

    def test_no_numbers(self):
        for place in range(3):
            for thing in NOT_NUMBERS:
                entry = [1, 1, 1]
                entry[place] = thing
                self.refused(1, [(1, 1, 1), entry, None])

    def test_calls_are_those_of_the_book(self):
        self.refused(0, ((0, 1, 0),), full_book(2, 1))
        self.refused(1, ((0, 3, 0), (0, 4, 0)), full_book(1, 4))

    def test_what_is_passed_stays_and_may_change_later(self):
        history = as_lists(HISTORY)
        checked = check_history(toss_and_show(), history)
        self.assertSame(history, as_lists(HISTORY))
        history[0][0] = 7
        history.append(3)
        self.assertSame(checked, HISTORY)


class TestParts(Case):

    def test_calls_of(self):
        for history in mixed_forms(HISTORY):
            self.assertSame(calls_of(history), ((0, 0), (1, 1), (1, 2), (0, 1), (0, 0), (0, 0)))

    def test_asks_made(self):
        for history in mixed_forms(HISTORY):
            self.assertSame(asks_made(history), ((3, 0), (0, 1), (3, 1), (9, 0), (0, 0), (3, 0)))

    def test_hands_of(self):
        for history in mixed_forms(HISTORY):
            self.assertSame(hands_of(history), (0, 3, 9))
        self.assertSame(hands_of([(hand, 0, 0) for hand in range(9, -1, -1)] * 2), tuple(range(10)))

    def test_part_of(self):
        for history in mixed_forms(HISTORY):
            self.assertSame(part_of(history, 3), ((3, 0, 0), (3, 1, 2), (3, 0, 0)))
            self.assertSame(part_of(history, 0), ((0, 1, 1), (0, 0, 0)))
            self.assertSame(part_of(history, 9), ((9, 0, 1),))
            self.assertSame(part_of(history, 4), ())

    def test_no_numbers_are_no_hands(self):
        for thing in NOT_NUMBERS:
            self.assertSame(part_of(((0, 0, 0), (1, 0, 0)), thing), ())

    def test_bare_history(self):
        for history in ((), []):
            for ask in (calls_of, asks_made, hands_of):
                self.assertSame(ask(history), ())
            self.assertSame(part_of(history, 0), ())

    def test_form_is_not_checked(self):
        self.assertSame(calls_of(((77, 88, 99),)), ((88, 99),))
        self.assertSame(asks_made(((77, 88, 99),)), ((77, 88),))
        self.assertSame(hands_of(((77, 88, 99),) * 500), (77,))
        self.assertSame(part_of(((77, 88, 99),), 77), ((77, 88, 99),))

    def test_what_is_passed_stays_and_may_change_later(self):
        history = as_lists(HISTORY)
        found = (calls_of(history), asks_made(history), hands_of(history), part_of(history, 3))
        self.assertSame(history, as_lists(HISTORY))
        for entry in history:
            entry[:] = [5, 5, 5]
        self.assertSame(found, (calls_of(HISTORY), asks_made(HISTORY), hands_of(HISTORY), part_of(HISTORY, 3)))
