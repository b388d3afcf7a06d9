"""[9.1] to [9.5], [9.8], [9.9] and [9.13], and of [9.6] and [9.7] what they say of parted histories."""

import random
from itertools import product

from tests.helper import (NOT_NUMBERS, NOT_SEQUENCES, Case, all_seams, all_ways, as_lists, drawn_histories, first_entries,
                          free_look, least_book, likely_wishes, mixed_forms, parts_between, plain_counts, plain_entries,
                          plain_reached, plain_safe, plain_trimmed, rows_across, rows_within, set_and_look, toss_and_show,
                          walk_ends)
from tests.test_foes import WIDE_WAYS
from unmetcells.books import Book
from unmetcells.errors import BadHistory, BadSeams, NoCounts, NoStretch, NotRight, TooMany
from unmetcells.foes import foe_plan, is_had, plan_fault
from unmetcells.scripts import Wish, turns_of
from unmetcells.standings import is_right
from unmetcells.stretches import (BarredStretch, Parting, all_partings, check_seams, coarsest_partings, counts_of,
                                  fewest_stretches, stretch_fault, stretch_joint, stretches_of, woven_rows)

LOOKED = ((0, 0, 0), (1, 1, 1), (2, 0, 0))

# Seven entries of four hands that go with each other in any order.
SEVEN = ((4, 0, 0), (2, 0, 0), (9, 0, 0), (0, 0, 0), (2, 0, 0), (4, 0, 0), (9, 0, 0))

# All functions of the part, with arguments that are to be passed behind the book and the history.
ASKS = ((check_seams, ((),)), (stretches_of, ((),)), (counts_of, ((), 0)), (lambda *given: list(woven_rows(*given)), ((),)),
        (stretch_joint, ((), 0, ())), (stretch_fault, ((),)), (all_partings, ()), (coarsest_partings, ()), (fewest_stretches, ()))
SEAMS_ASKS = (check_seams, stretches_of, lambda *given: list(woven_rows(*given)), stretch_fault)

# What is no sequence of seams for four entries.
NOT_SEAMS = NOT_SEQUENCES + ((0,), (4,), (1, 1), [2, 1], (1, 3, 2), [-1], (1, 2, 3, 4), ((1,),), ["1"], (10 ** 100,), [1, None])


def plain_stretch_joint(book, history, seams, stretch, counts):
    """The joint at counts of a stretch, row by row."""
    stretches = parts_between(history, seams)
    parts = stretches[:stretch] + (first_entries(stretches[stretch], counts),)
    return plain_trimmed([walk_ends(book, (0,), [entry[1:] for entry in row]) for row in rows_across(parts)])


def plain_stretch_fault(book, history, seams):
    """The first counts whose joint is not safe, with the joint."""
    for stretch, part in enumerate(parts_between(history, seams)):
        for counts in plain_counts(part):
            joint = plain_stretch_joint(book, history, seams, stretch, counts)
            if joint not in plain_safe(plain_reached(book, joint)):
                return stretch, counts, joint
    return None


def ended_joints(book, history, seams):
    """The joint at the end of each stretch, row by row."""
    stretches = parts_between(history, seams)
    return tuple(plain_stretch_joint(book, history, seams, stretch, plain_counts(part)[-1])
                 for stretch, part in enumerate(stretches))


class TestSeams(Case):

    def test_example(self):
        self.assertSame(check_seams(set_and_look(), LOOKED, [1]), (1,))
        self.assertSame(stretches_of(set_and_look(), LOOKED, (1,)), (((0, 0, 0),), ((1, 1, 1), (2, 0, 0))))

    def test_all_seams_as_lists_and_tuples(self):
        for book, history in drawn_histories(251, 40, 5) + [(least_book(1, 1), SEVEN)]:
            for seams in all_seams(history):
                for form in (seams, list(seams)):
                    for entries in (history, as_lists(history)):
                        self.assertSame(check_seams(book, entries, form), seams)
                        self.assertSame(stretches_of(book, entries, form), parts_between(history, seams))
                self.assertEqual(len(stretches_of(book, history, seams)), len(seams) + 1)

    def test_0_and_1_entries(self):
        for history in ((), [], ((3, 0, 0),), [[3, 0, 2]]):
            self.assertSame(check_seams(least_book(1, 1), history, []), ())
            for seams in ((0,), (1,), [2], (-1,)):
                self.refuses(BadSeams, {}, check_seams, least_book(1, 1), history, seams)
        self.assertSame(stretches_of(least_book(1, 1), [], []), ((),))
        self.assertSame(stretches_of(least_book(1, 1), [[3, 0, 2]], []), (((3, 0, 2),),))

    def test_bad_seams(self):
        history = LOOKED + ((3, 1, 0),)
        for ask in SEAMS_ASKS:
            for thing in NOT_SEAMS:
                self.refuses(BadSeams, {}, ask, set_and_look(), history, thing)
            for number in NOT_NUMBERS:
                self.refuses(BadSeams, {}, ask, set_and_look(), history, (1, number))
                self.refuses(BadSeams, {}, ask, set_and_look(), history, [number])
        for thing in NOT_SEAMS:
            self.refuses(BadSeams, {}, counts_of, set_and_look(), history, thing, 9)
            self.refuses(BadSeams, {}, stretch_joint, set_and_look(), history, thing, 9, None)

    def test_bad_histories_come_first(self):
        book = least_book(1, 1)
        for ask, more in ASKS:
            wrong = (None,) * len(more)
            for given in (more, wrong):
                for thing in NOT_SEQUENCES:
                    self.refuses(BadHistory, {"index": 0}, ask, book, thing, *given)
                self.refuses(BadHistory, {"index": 401}, ask, book, [None] * 401, *given)
                for entry in ((0, 1, 0), (10, 0, 0), (0, 0, 3), (True, 0, 0), (0, False, 0), (0, 0, 1.0), (0, 0), None, ()):
                    self.refuses(BadHistory, {"index": 1}, ask, book, [(0, 0, 0), entry, None], *given)
                    self.refuses(BadHistory, {"index": 9}, ask, book, [(hand, 0, 0) for hand in range(9)] + [entry], *given)
                self.refuses(TooMany, {"most": 7}, ask, book, [(hand, 0, 0) for hand in range(8)], *given)
                self.refuses(TooMany, {"most": 7}, ask, book, [(0, 0, 1)] * 400, *given)
                self.refuses(TooMany, {"most": 4}, ask, book, [(hand, 0, 0) for hand in (9, 0, 5, 3, 1)], *given)
                self.refuses(TooMany, {"most": 4}, ask, book, [(hand, 0, 0) for hand in (9, 0, 5, 3, 1, 9, 9)], *given)

    def test_7_entries_of_4_hands(self):
        book = least_book(1, 1)
        for ask, more in ASKS:
            if ask is stretch_joint:
                more = ((), 0, (0, 0, 0, 0))
            ask(book, SEVEN, *more)
            ask(book, as_lists(SEVEN), *as_lists(more))

    def test_what_is_passed_stays(self):
        history, seams, counts = as_lists(LOOKED), [1], [0, 1]
        found = stretches_of(set_and_look(), history, seams)
        stretch_joint(set_and_look(), history, seams, 1, counts)
        for ask, more in ASKS[:3] + ASKS[5:]:
            ask(set_and_look(), history, *((seams,) + more[1:] if more else ()))
        self.assertSame((history, seams, counts), (as_lists(LOOKED), [1], [0, 1]))
        history[0][0] = 7
        seams.clear()
        self.assertSame(found, (((0, 0, 0),), ((1, 1, 1), (2, 0, 0))))


class TestCounts(Case):

    def test_samples(self):
        book = least_book(1, 1)
        self.assertSame(counts_of(book, (), (), 0), ((),))
        self.assertSame(counts_of(book, ((5, 0, 0),), (), 0), ((0,), (1,)))
        history = ((5, 0, 0), (2, 0, 0), (5, 0, 0), (3, 0, 0))
        self.assertSame(counts_of(book, history, (3,), 0), ((0, 0), (0, 1), (1, 0), (0, 2), (1, 1), (1, 2)))
        self.assertSame(counts_of(book, history, (3,), 1), ((0,), (1,)))
        self.assertEqual(len(counts_of(book, SEVEN, (), 0)), 2 * 3 * 3 * 3)

    def test_against_all_rows_of_numbers(self):
        for book, history in drawn_histories(252, 40, 6):
            for seams in all_seams(history):
                for stretch, part in enumerate(parts_between(history, seams)):
                    wanted = tuple(plain_counts(part))
                    self.assertSame(counts_of(book, history, seams, stretch), wanted)
                    self.assertSame(counts_of(book, as_lists(history), list(seams), stretch), wanted)

    def test_no_stretch(self):
        for ask, more in ((counts_of, ()), (stretch_joint, (None,))):
            for history, seams in ((LOOKED, ()), (LOOKED, (1,)), (LOOKED, (1, 2)), ((), ())):
                for stretch in NOT_NUMBERS + (-1, len(seams) + 1, 10 ** 100):
                    with self.assertRaises(NoStretch) as caught:
                        ask(set_and_look(), history, seams, stretch, *more)
                    self.assertIs(caught.exception.stretch, stretch)
                    self.assertEqual(list(vars(caught.exception)), ["stretch"])


class TestRows(Case):

    def test_samples(self):
        book = set_and_look()
        self.assertSame(list(woven_rows(book, (), ())), [()])
        self.assertSame(list(woven_rows(book, LOOKED, (1, 2))), [LOOKED])
        self.assertSame(list(woven_rows(book, LOOKED, (1,))), [LOOKED, (LOOKED[0], LOOKED[2], LOOKED[1])])
        self.assertEqual(len(list(woven_rows(book, LOOKED, ()))), 6)

    def test_one_by_one(self):
        found = []
        for row in woven_rows(set_and_look(), LOOKED, []):
            found.append(row)
            if len(found) == 2:
                break
        self.assertSame(found, [LOOKED, (LOOKED[0], LOOKED[2], LOOKED[1])])

    def test_630_rows(self):
        rows = list(woven_rows(least_book(1, 1), SEVEN, ()))
        self.assertEqual(len(rows), 630)
        self.assertEqual(rows, sorted(set(rows)))
        self.assertIn(SEVEN, rows)
        for row in rows[::50]:
            self.assertEqual(sorted(row), sorted(SEVEN))

    def test_equal_entries_of_one_hand(self):
        book = least_book(1, 1)
        self.assertSame(list(woven_rows(book, ((1, 0, 0),) * 7, ())), [((1, 0, 0),) * 7])
        self.assertSame(list(woven_rows(book, ((1, 0, 0), (1, 0, 0), (0, 0, 0)), ())),
                        [((0, 0, 0), (1, 0, 0), (1, 0, 0)), ((1, 0, 0), (0, 0, 0), (1, 0, 0)), ((1, 0, 0), (1, 0, 0), (0, 0, 0))])

    def test_against_all_orders_of_the_entries(self):
        for book, history in drawn_histories(253, 60, 6):
            for seams in all_seams(history)[::3]:
                wanted = rows_across(parts_between(history, seams))
                self.assertSame(list(woven_rows(book, history, seams)), wanted)
                self.assertSame(list(woven_rows(book, as_lists(history), list(seams))), wanted)
                self.assertIn(history, wanted)
        self.assertSame(list(woven_rows(least_book(1, 1), SEVEN, (3,))), rows_across((SEVEN[:3], SEVEN[3:])))
        self.assertSame(list(woven_rows(least_book(1, 1), SEVEN, ())), rows_within(SEVEN))

    def test_more_seams_leave_fewer_rows(self):
        """[9.7]."""
        for book, history in drawn_histories(254, 15, 5):
            for few, more in product(all_seams(history), repeat=2):
                if set(few) <= set(more):
                    self.assertTrue(set(woven_rows(book, history, more)) <= set(woven_rows(book, history, few)))


class TestJoints(Case):

    def test_samples(self):
        book = set_and_look()
        self.assertSame(stretch_joint(book, LOOKED, (), 0, (0, 0, 0)), ((0,),))
        self.assertSame(stretch_joint(book, LOOKED, (), 0, (0, 1, 0)), ((),))
        self.assertSame(stretch_joint(book, LOOKED, [1], 1, [0, 0]), ((1,),))
        self.assertSame(stretch_joint(book, LOOKED, [1], 1, [1, 1]), ((1,),))
        self.assertSame(stretch_joint(book, (), (), 0, []), ((0,),))
        tossed = ((0, 0, 0), (1, 0, 1))
        self.assertSame(stretch_joint(toss_and_show(), tossed, (), 0, (1, 1)), ((1,), (2,)))
        self.assertSame(stretch_joint(toss_and_show(), tossed, (1,), 1, (1,)), ((2,),))

    def test_against_all_rows(self):
        longest = 0
        for book, history in drawn_histories(255, 60, 5):
            for seams in all_seams(history)[::2]:
                for stretch, part in enumerate(parts_between(history, seams)):
                    for counts in plain_counts(part):
                        wanted = plain_stretch_joint(book, history, seams, stretch, counts)
                        self.assertSame(stretch_joint(book, history, seams, stretch, counts), wanted)
                        self.assertTuples(wanted)
                        longest = max(longest, len(wanted))
                    found = stretch_joint(book, as_lists(history), list(seams), stretch, list(counts))
                    self.assertSame(found, wanted)
        self.assertGreater(longest, 1)

    def test_the_first_counts_of_a_stretch(self):
        for book, history in drawn_histories(256, 60, 6):
            for seams in all_seams(history)[::5]:
                stretches = parts_between(history, seams)
                for stretch in range(len(stretches)):
                    first = stretch_joint(book, history, seams, stretch, plain_counts(stretches[stretch])[0])
                    ahead = ((0,),)
                    if stretch > 0:
                        ahead = stretch_joint(book, history, seams, stretch - 1, plain_counts(stretches[stretch - 1])[-1])
                    self.assertSame(first, ahead)

    def test_7_entries(self):
        book = Book(4, 1, ((0, 0, 0, 1), (0, 0, 1, 2), (1, 0, 0, 2), (1, 0, 1, 3), (2, 0, 1, 0), (2, 0, 0, 3), (3, 0, 0, 0),
                           (3, 0, 1, 3)))
        history = tuple((hand, 0, hand % 2) for hand in (4, 2, 9, 5, 2, 4, 9))
        for counts in plain_counts(history)[::7] + plain_counts(history)[-1:]:
            self.assertSame(stretch_joint(book, history, (), 0, counts), plain_stretch_joint(book, history, (), 0, counts))

    def test_no_counts(self):
        wrong = NOT_SEQUENCES + ((), (0,), (0, 0, 0), (2, 0), (0, 2), (-1, 0), ((0,), 0), [10 ** 100, 0])
        for thing in wrong:
            self.refuses(NoCounts, {}, stretch_joint, set_and_look(), LOOKED, (1,), 1, thing)
        for number in NOT_NUMBERS:
            self.refuses(NoCounts, {}, stretch_joint, set_and_look(), LOOKED, (1,), 1, (1, number))
            self.refuses(NoCounts, {}, stretch_joint, set_and_look(), LOOKED, (1,), 0, [number])
        for thing in NOT_SEQUENCES + ((0,),):
            self.refuses(NoCounts, {}, stretch_joint, set_and_look(), (), (), 0, thing)


class TestStretchFault(Case):

    def test_example(self):
        wanted = BarredStretch(0, (0, 1, 0), ((),), ((((),), None),))
        for history, seams in ((LOOKED, ()), (as_lists(LOOKED), [])):
            found = stretch_fault(set_and_look(), history, seams)
            self.assertEqual(found, wanted)
            self.assertSame(vars(found), vars(wanted))
        self.assertIs(stretch_fault(set_and_look(), LOOKED, (1,)), None)
        self.assertIs(stretch_fault(set_and_look(), LOOKED, [1, 2]), None)
        self.assertEqual(stretch_fault(set_and_look(), LOOKED, (2,)), BarredStretch(0, (0, 1), ((),), ((((),), None),)))

    def test_a_joint_that_is_barred_but_alive(self):
        plan = ((((1,), (2,)), 1), (((),), None))
        found = stretch_fault(toss_and_show(), ((3, 0, 0), (7, 0, 1)), ())
        self.assertEqual(found, BarredStretch(0, (1, 1), ((1,), (2,)), plan))
        later = ((3, 1, 0), (3, 0, 0), (7, 0, 1))
        self.assertEqual(stretch_fault(toss_and_show(), later, (1,)), BarredStretch(1, (1, 1), ((1,), (2,)), plan))
        self.assertEqual(stretch_fault(toss_and_show(), later, ()), BarredStretch(0, (1, 1), ((),), ((((),), None),)))

    def test_against_a_plain_search(self):
        found = {None: 0, "dead": 0, "alive": 0}
        for book, history in drawn_histories(257, 120, 5) + alive_histories():
            for seams in all_seams(history)[::2]:
                fault, wanted = stretch_fault(book, history, seams), plain_stretch_fault(book, history, seams)
                if wanted is None:
                    self.assertIs(fault, None)
                    found[None] += 1
                else:
                    self.assertSame((fault.stretch, fault.counts, fault.joint), wanted)
                    self.assertSame(fault.plan, foe_plan(book, fault.joint))
                    self.assertIs(plan_fault(book, fault.joint, fault.plan), None)
                    self.assertTuples(tuple(vars(fault).values()))
                    found["dead" if fault.joint == ((),) else "alive"] += 1
        self.assertGreater(min(found.values()), 20, found)

    def test_had_exactly_if_a_wish_is_had(self):
        """[9.7], the last but one sentence: scripts without two rows at one place."""
        tried = {True: 0, False: 0}
        for wish in likely_wishes(258, 300):
            scripts = [self.first_rows(script) for script in wish.scripts]
            wish = Wish(wish.book, wish.past, scripts)
            parts = [plain_entries(script, hand, turns_of(script)[-1]) for hand, script in enumerate(scripts)]
            history = wish.past + tuple(entry for part in parts for entry in part)
            other = wish.past + tuple(entry for part in parts[::-1] for entry in part)
            seams = tuple(seam for seam in range(1, len(wish.past) + 1) if seam < len(history))
            if len(history) <= 7 and len({entry[0] for entry in history}) <= 4:
                self.assertIs(stretch_fault(wish.book, history, seams) is None, is_had(wish))
                self.assertIs(stretch_fault(wish.book, other, seams) is None, is_had(wish))
                tried[is_had(wish)] += len([part for part in parts if part]) > 1
        self.assertGreater(min(tried.values()), 20, tried)

    def first_rows(self, script):
        """The script with one row alone at each place."""
        return tuple((call, answer, self.first_rows(behind)) for call, answer, behind in script[:1])

    def test_too_many_joints(self):
        book, history = Book(6, 3, WIDE_WAYS), ((0, 1, 0), (1, 0, 0))
        self.assertSame(stretch_joint(book, history, (), 0, (1, 1)), ((0,), (2,)))
        self.refuses(TooMany, {"most": 300}, stretch_fault, book, history, ())
        self.assertIs(stretch_fault(book, history, (1,)), None)
        for ask in (all_partings, coarsest_partings, fewest_stretches):
            self.refuses(TooMany, {"most": 300}, ask, book, history)

    def test_no_error_behind_the_first_fault(self):
        book, history = Book(6, 3, WIDE_WAYS), ((0, 1, 1), (1, 0, 0), (0, 1, 0), (2, 0, 0))
        self.assertEqual(stretch_fault(book, history, (2,)), BarredStretch(0, (1, 0), ((),), ((((),), None),)))
        self.assertSame(all_partings(book, history), ())
        self.refuses(NotRight, {}, fewest_stretches, book, history)

    def test_a_fault_behind_too_many_joints(self):
        book, history = Book(6, 3, WIDE_WAYS), ((0, 1, 0), (1, 0, 0), (2, 0, 1))
        self.refuses(TooMany, {"most": 300}, stretch_fault, book, history, (2,))
        self.assertEqual(stretch_fault(book, history, (1, 2)).joint, ((),))
        self.refuses(TooMany, {"most": 300}, fewest_stretches, book, history)

    def test_results(self):
        self.isResult(BarredStretch, "stretch", "counts", "joint", "plan")
        self.isResult(Parting, "seams", "joints")


def alive_histories():
    """Histories with joints that are barred but alive, in some stretch."""
    dice = random.Random(259)
    found = []
    while len(found) < 60:
        entries = [(dice.choice((0, 1, 5)), 0, dice.randrange(2)) for _ in range(dice.randrange(2, 5))]
        book = toss_and_show()
        if dice.randrange(2):
            book = book.with_way((dice.choice((1, 2)), 1, 2, dice.randrange(3)))
        found.append((book, tuple(entries)))
    return found


class TestPartings(Case):

    def test_example(self):
        for history in (LOOKED, as_lists(LOOKED)):
            self.assertSame(all_partings(set_and_look(), history), ((1,), (1, 2)))
            self.assertSame(coarsest_partings(set_and_look(), history), ((1,),))
            found = fewest_stretches(set_and_look(), history)
            self.assertEqual(found, Parting((1,), (((1,),), ((1,),))))
            self.assertSame(vars(found), {"seams": (1,), "joints": (((1,),), ((1,),))})

    def test_0_and_1_entries(self):
        book = set_and_look()
        self.assertSame(all_partings(book, ()), ((),))
        self.assertSame(coarsest_partings(book, []), ((),))
        self.assertEqual(fewest_stretches(book, ()), Parting((), (((0,),),)))
        self.assertSame(all_partings(book, ((9, 0, 0),)), ((),))
        self.assertEqual(fewest_stretches(book, [[9, 0, 0]]), Parting((), (((1,),),)))
        self.assertSame(all_partings(book, ((9, 0, 1),)), ())
        self.assertSame(coarsest_partings(book, ((9, 0, 1),)), ())
        self.refuses(NotRight, {}, fewest_stretches, book, ((9, 0, 1),))

    def test_7_entries(self):
        self.assertEqual(len(all_partings(least_book(1, 1), SEVEN)), 64)
        self.assertSame(all_partings(least_book(1, 1), SEVEN), tuple(all_seams(SEVEN)))
        self.assertSame(coarsest_partings(least_book(1, 1), SEVEN), ((),))
        counter = Book(2, 1, ((0, 0, 0, 1), (1, 0, 1, 0)))
        turns = tuple((hand, 0, at % 2) for at, hand in enumerate((0, 1, 2, 3, 0, 1, 2)))
        self.assertSame(all_partings(counter, turns), ((1, 2, 3, 4, 5, 6),))
        self.assertSame(coarsest_partings(counter, turns), ((1, 2, 3, 4, 5, 6),))

    def test_against_stretch_fault_over_all_seams(self):
        sizes = set()
        for book, history in drawn_histories(260, 120, 6) + alive_histories():
            wanted = tuple(seams for seams in all_seams(history) if stretch_fault(book, history, seams) is None)
            self.assertSame(all_partings(book, history), wanted)
            self.assertTuples(wanted)
            coarsest = tuple(seams for seams in wanted
                             if not any(tuple(seam for seam in seams if seam != gone) in wanted for gone in seams))
            self.assertSame(coarsest_partings(book, history), coarsest)
            self.assertIs(wanted == (), not is_right(book, history))
            sizes.add(len(coarsest))
            if wanted:
                found = fewest_stretches(book, history)
                self.assertEqual(found, Parting(wanted[0], ended_joints(book, history, wanted[0])))
                self.assertTuples((found.seams, found.joints))
            else:
                self.refuses(NotRight, {}, fewest_stretches, book, history)
        self.assertTrue({0, 1, 2} <= sizes, sizes)

    def test_others_are_coarsest_ones_with_more_seams(self):
        for book, history in drawn_histories(261, 60, 6):
            had, coarsest = all_partings(book, history), coarsest_partings(book, history)
            for seams in all_seams(history):
                self.assertIs(seams in had, any(set(few) <= set(seams) for few in coarsest))

    def test_not_right(self):
        for history in (((0, 1, 1),), ((0, 0, 0), (1, 1, 0)), ((0, 1, 1), (1, 0, 0), (2, 1, 1))):
            self.assertSame(all_partings(set_and_look(), history), ())
            self.refuses(NotRight, {}, fewest_stretches, set_and_look(), history)


class TestWhatHolds(Case):
    """[9.6] and [9.7]."""

    def test_behind_barred_counts_some_row_ends_wrong_whatever_is_answered(self):
        tried = 0
        for book, history in drawn_histories(262, 120, 5) + alive_histories():
            fault = stretch_fault(book, history, ())
            if fault is not None:
                plan = dict(fault.plan)
                for answers in product(range(3), repeat=min(len(plan) - 1, 3)):
                    rows = [list(row) for row in rows_within(first_entries(history, fault.counts))]
                    joint = fault.joint
                    for answer in answers:
                        if plan.get(joint) is not None:
                            rows = [row + [(9, plan[joint], answer)] for row in rows]
                            joint = plain_trimmed([walk_ends(book, (0,), [entry[1:] for entry in row]) for row in rows])
                    if len(plan) <= 4:
                        self.assertIs(all(is_right(book, row) for row in rows), False)
                        tried += 1
        self.assertGreater(tried, 100)

    def test_more_seams_keep_what_is_had(self):
        for book, history in drawn_histories(263, 60, 5):
            had = all_partings(book, history)
            for few, more in product(all_seams(history), repeat=2):
                if set(few) <= set(more) and few in had:
                    self.assertIn(more, had)

    def test_first_entries_are_had(self):
        for book, history in drawn_histories(264, 60, 5):
            for seams in all_partings(book, history):
                for many in range(len(history)):
                    fewer = tuple(seam for seam in seams if seam < many)
                    self.assertIs(stretch_fault(book, history[:many], fewer), None)

    def test_looser_books(self):
        dice = random.Random(265)
        for book, history in drawn_histories(265, 60, 4):
            missing = [way for way in all_ways(book.states, book.calls) if way not in book]
            for way in dice.sample(missing, min(2, len(missing))):
                self.assertTrue(set(all_partings(book, history)) <= set(all_partings(book.with_way(way), history)))
        self.assertTrue(set(all_partings(set_and_look(), LOOKED)) <= set(all_partings(free_look(), LOOKED)))

    def test_all_seams_are_had_exactly_if_the_history_is_right(self):
        found = set()
        for book, history in drawn_histories(266, 150, 6):
            right = is_right(book, history)
            self.assertIs(stretch_fault(book, history, tuple(range(1, len(history)))) is None, right)
            found.add(right)
        self.assertEqual(found, {True, False})

    def test_what_is_had_has_right_rows_alone(self):
        for book, history in drawn_histories(267, 60, 5):
            for seams in all_partings(book, history):
                self.assertTrue(all(is_right(book, row) for row in woven_rows(book, history, seams)))

    def test_form_does_not_matter(self):
        for form in mixed_forms(LOOKED):
            self.assertSame(all_partings(set_and_look(), form), ((1,), (1, 2)))
