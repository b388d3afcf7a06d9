"""[5.3] to [5.5], and of [5.1] what it says of cells, `read` and `write`."""

import random
from itertools import combinations, product

from tests.helper import NOT_NUMBERS, NOT_SEQUENCES, Case, as_lists, mixed_forms
from unmetcells.errors import BadAsks, BadCall, BadHand
from unmetcells.steps import Run, check_ask, check_asks, do_step, meeting_of, meetings_in, run_program

NOT_HANDS = NOT_NUMBERS + (10, -1, 10 ** 100)
NAMES = ("a", "b", "c")


class Tally:
    """A program with three calls: each hand counts its own calls; call 1 looks at all, call 2 notes the last hand."""

    calls = 3

    def __init__(self):
        self.done = 0

    def first_cells(self):
        return dict({f"own {hand}": 0 for hand in range(10)}, last=None)

    def step(self, read, write, hand, call):
        check_ask(self.calls, hand, call)
        self.done += 1
        if call == 1:
            return sum(read(f"own {other}") for other in range(9, -1, -1)) % 3
        own = f"own {hand}"
        write(own, read(own) + 1)
        write(own, read(own))
        if call == 2:
            write("last", (hand, ("hand", str(hand))))
            write("last", read("last"))
        return read(own) % 3


def all_marks():
    """All marks over three names."""
    rows = [names for many in range(4) for names in combinations(NAMES, many)]
    return list(product(rows, repeat=2))


def plain_meeting(one, other):
    """The least name by which two marks meet, name by name."""
    for name in NAMES:
        if name in one[1] and name in other[0] + other[1] or name in other[1] and name in one[0] + one[1]:
            return name
    return None


class TestAsks(Case):

    def test_good_asks(self):
        for calls in range(1, 5):
            for hand, call in product(range(10), range(calls)):
                self.assertIs(check_ask(calls, hand, call), None)

    def test_bad_hand_comes_first(self):
        for hand in NOT_HANDS:
            for call in (0, 1, 2, None, True):
                self.refuses(BadHand, {}, check_ask, 2, hand, call)

    def test_bad_call(self):
        for calls in range(1, 5):
            for call in NOT_NUMBERS + (calls, -1, 10 ** 100):
                self.refuses(BadCall, {}, check_ask, calls, 9, call)

    def test_check_asks(self):
        asks = ((0, 0), (9, 1), (3, 0))
        for form in mixed_forms(asks):
            self.assertSame(check_asks(2, form), asks)
        for form in ((), []):
            self.assertSame(check_asks(1, form), ())

    def test_200_asks_and_201(self):
        self.assertSame(check_asks(1, [[9, 0]] * 200), ((9, 0),) * 200)
        for asks in ([[9, 0]] * 201, [None] * 201, ((9, 0),) * 1000):
            self.refuses(BadAsks, {"index": 0}, check_asks, 1, asks)

    def test_bad_asks(self):
        for thing in NOT_SEQUENCES:
            self.refuses(BadAsks, {"index": 0}, check_asks, 2, thing)
        wrong = list(NOT_SEQUENCES) + [(), (0,), (0, 0, 0), (0, 2), (10, 0), "00", {0: 0, 1: 0}]
        wrong += [(hand, 0) for hand in NOT_HANDS] + [[0, call] for call in NOT_NUMBERS + (2, -1)]
        for ask in wrong:
            self.refuses(BadAsks, {"index": 2}, check_asks, 2, [(0, 0), (9, 1), ask, None])
            self.refuses(BadAsks, {"index": 0}, check_asks, 2, (ask,))

    def test_later_changes(self):
        asks = [[0, 1], [2, 0]]
        checked = check_asks(2, asks)
        self.assertSame(asks, [[0, 1], [2, 0]])
        asks[0][0] = 7
        self.assertSame(checked, ((0, 1), (2, 0)))


class TestDoStep(Case):

    def test_answer_marks_and_cells(self):
        cells = Tally().first_cells()
        answer, marks, behind = do_step(Tally(), cells, 4, 0)
        self.assertSame((answer, marks), (1, (("own 4",), ("own 4",))))
        self.assertEqual(behind, dict(cells, **{"own 4": 1}))

    def test_marks_ascend_without_duplicates(self):
        reads = tuple(f"own {hand}" for hand in range(10))
        self.assertSame(do_step(Tally(), Tally().first_cells(), 4, 1)[1], (reads, ()))
        self.assertSame(do_step(Tally(), Tally().first_cells(), 4, 2)[1], (("last", "own 4"), ("last", "own 4")))

    def test_a_cell_that_gets_the_value_that_it_held_is_written(self):
        cells = dict(Tally().first_cells(), last=(4, ("hand", "4")))
        self.assertSame(do_step(Tally(), cells, 4, 2)[1][1], ("last", "own 4"))

    def test_reads_see_what_was_written(self):
        self.assertSame(do_step(Tally(), dict(Tally().first_cells(), **{"own 0": 7}), 0, 0)[0], 2)

    def test_the_triple_is_a_tuple(self):
        self.assertIs(do_step(Tally(), Tally().first_cells(), 0, 0).__class__, tuple)

    def test_what_is_passed_stays_and_what_is_returned_is_new(self):
        cells = Tally().first_cells()
        for call in range(3):
            _, _, behind = do_step(Tally(), cells, 4, call)
            self.assertEqual(cells, Tally().first_cells())
            self.assertIsNot(behind, cells)
            behind["own 4"] = 9
            self.assertEqual(cells, Tally().first_cells())

    def test_other_names_stay(self):
        cells = dict(Tally().first_cells(), other=(1, "x"))
        _, marks, behind = do_step(Tally(), cells, 4, 1)
        self.assertEqual(behind, cells)
        self.assertNotIn("other", marks[0])
        self.assertEqual(do_step(Tally(), cells, 4, 0)[2], dict(cells, **{"own 4": 1}))

    def test_errors_of_the_step(self):
        for hand in NOT_HANDS:
            self.refuses(BadHand, {}, do_step, Tally(), Tally().first_cells(), hand, None)
        for call in NOT_NUMBERS + (3, -1):
            self.refuses(BadCall, {}, do_step, Tally(), Tally().first_cells(), 0, call)


class TestRuns(Case):

    def test_run(self):
        run = run_program(Tally(), ((4, 0), (5, 1), [4, 0], (4, 2)))
        self.assertSame(run.entries, ((4, 0, 1), (5, 1, 1), (4, 0, 2), (4, 2, 0)))
        self.assertSame(run.answers, (1, 1, 2, 0))
        self.assertSame(run.marks[0], (("own 4",), ("own 4",)))
        self.assertSame(run.marks[3], (("last", "own 4"), ("last", "own 4")))
        self.assertEqual(run.cells, dict(Tally().first_cells(), **{"own 4": 3, "last": (4, ("hand", "4"))}))
        self.assertTuples((run.entries, run.marks, run.answers))

    def test_step_by_step(self):
        dice = random.Random(141)
        for _ in range(20):
            asks = [(dice.randrange(10), dice.randrange(3)) for _ in range(12)]
            cells, marks, entries = Tally().first_cells(), [], []
            for hand, call in asks:
                answer, mark, cells = do_step(Tally(), cells, hand, call)
                marks.append(mark)
                entries.append((hand, call, answer))
            for form in mixed_forms(asks):
                run = run_program(Tally(), form)
                self.assertSame((run.entries, run.marks), (tuple(entries), tuple(marks)))
                self.assertEqual(run.cells, cells)
            half = run_program(Tally(), asks[:6])
            rest = run_program(Tally(), asks[6:], half.cells)
            self.assertEqual(half.entries + rest.entries, run.entries)
            self.assertEqual(rest, run_program(Tally(), asks[6:], cells=half.cells))
            self.assertEqual(rest.cells, cells)

    def test_no_asks(self):
        for asks in ((), []):
            program = Tally()
            run = run_program(program, asks)
            self.assertSame((run.entries, run.marks, run.answers), ((), (), ()))
            self.assertEqual(run.cells, program.first_cells())
            self.assertEqual(program.done, 0)
            cells = {"other": 1}
            run = run_program(program, asks, cells)
            self.assertEqual(run.cells, cells)
            self.assertIsNot(run.cells, cells)

    def test_cells_stay_and_other_names_are_kept(self):
        cells = dict(Tally().first_cells(), other="x")
        run = run_program(Tally(), ((4, 0), (4, 0)), cells)
        self.assertEqual(cells, dict(Tally().first_cells(), other="x"))
        self.assertEqual(run.cells, dict(cells, **{"own 4": 2}))
        run.cells["other"] = "y"
        self.assertEqual(cells["other"], "x")

    def test_200_asks_and_201(self):
        self.assertSame(len(run_program(Tally(), [(0, 0)] * 200).entries), 200)
        self.refuses(BadAsks, {"index": 0}, run_program, Tally(), [(0, 0)] * 201)

    def test_errors_come_before_the_first_step(self):
        program = Tally()
        for ask in ((10, 0), (0, 3), (True, 0), (0, False), (0,), None):
            self.refuses(BadAsks, {"index": 2}, run_program, program, [(0, 0), (1, 1), ask])
        for thing in NOT_SEQUENCES:
            self.refuses(BadAsks, {"index": 0}, run_program, program, thing)
        self.assertEqual(program.done, 0)

    def test_asks_stay(self):
        asks = [[4, 0], [5, 1]]
        run = run_program(Tally(), asks)
        self.assertSame(asks, [[4, 0], [5, 1]])
        asks[0][0] = 7
        self.assertSame(run.entries[0], (4, 0, 1))

    def test_the_class_keeps_what_it_is_given(self):
        entries, marks, cells = [(1, 2, 0)], object(), {}
        run = Run(entries, marks, cells)
        self.assertIs(run.entries, entries)
        self.assertIs(run.marks, marks)
        self.assertIs(run.cells, cells)
        self.assertSame(run.answers, (0,))
        self.assertEqual(vars(Run(entries=1, marks=2, cells=3)), {"entries": 1, "marks": 2, "cells": 3})

    def test_equal(self):
        one = Run(((0, 0, 1),), (((), ("a",)),), {"a": 1, "b": 2})
        self.assertTrue(one == Run(((0, 0, 1),), (((), ("a",)),), {"b": 2, "a": 1}))
        self.assertFalse(one != Run(((0, 0, 1),), (((), ("a",)),), {"b": 2, "a": 1}))
        for other in (Run(((0, 0, 2),), one.marks, one.cells), Run(one.entries, (), one.cells),
                      Run(one.entries, one.marks, {"a": 1}), (one.entries, one.marks, one.cells), None, 1, object()):
            self.assertFalse(one == other)
            self.assertTrue(one != other)
            self.assertFalse(other == one)


class TestMeetings(Case):

    def test_against_each_name(self):
        for one, other in product(all_marks(), repeat=2):
            self.assertSame(meeting_of(one, other), plain_meeting(one, other))
            self.assertSame(meeting_of(other, one), plain_meeting(one, other))
        for one, other in list(product(all_marks(), repeat=2))[::50]:
            for form in mixed_forms(one):
                self.assertSame(meeting_of(form, as_lists(other)), plain_meeting(one, other))

    def test_two_reads_do_not_meet(self):
        self.assertIs(meeting_of((("a", "b"), ("c",)), (("a", "b"), ())), None)
        self.assertSame(meeting_of((("a", "b"), ("c",)), (("a", "b"), ("b",))), "b")
        self.assertSame(meeting_of(((), ("b", "c")), ((), ("c",))), "c")

    def test_meetings_in(self):
        dice = random.Random(142)
        found = 0
        for _ in range(60):
            many = dice.randrange(8)
            hands = [dice.randrange(3) for _ in range(many)]
            run = Run(tuple((hand, 0, 0) for hand in hands), tuple(dice.choice(all_marks()) for _ in hands), {})
            for begin in (0, 1, 2, many - 1, many, many + 1, 500, 10 ** 100):
                if begin < 0:
                    continue
                wanted = []
                for i, j in combinations(range(many), 2):
                    cell = plain_meeting(run.marks[i], run.marks[j])
                    if begin <= i and hands[i] != hands[j] and cell is not None:
                        wanted.append((i, j, cell))
                self.assertSame(meetings_in(run, begin), tuple(wanted))
                self.assertSame(meetings_in(run, begin=begin), tuple(wanted))
                found += len(wanted)
            self.assertSame(meetings_in(run), meetings_in(run, 0))
        self.assertGreater(found, 100)

    def test_one_hand_meets_nobody(self):
        self.assertSame(meetings_in(run_program(Tally(), [(3, 2)] * 5)), ())

    def test_tally(self):
        run = run_program(Tally(), ((1, 0), (2, 0), (3, 1), (2, 2), (1, 2)))
        self.assertSame(meetings_in(run), ((0, 2, "own 1"), (1, 2, "own 2"), (2, 3, "own 2"), (2, 4, "own 1"), (3, 4, "last")))
        self.assertSame(meetings_in(run, 2), ((2, 3, "own 2"), (2, 4, "own 1"), (3, 4, "last")))
        self.assertSame(meetings_in(run, 4), ())
        self.assertSame(meetings_in(Run((), (), {})), ())
