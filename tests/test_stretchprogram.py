"""[9.10] to [9.12], with [5.1] and [5.2], and of [9.6] what it says of programs."""

import random
from itertools import product

from tests.helper import (Case, as_lists, drawn_histories, full_book, heard_from, is_plain_value, least_book, parts_between,
                          plain_counts, plain_onward, plain_reached, plain_safe, set_and_look, toss_and_show, walk_ends)
from tests.test_foes import WIDE_WAYS
from tests.test_stretches import ASKS, LOOKED, NOT_SEAMS, SEVEN, alive_histories
from unmetcells.books import Book
from unmetcells.errors import BadHistory, BadSeams, NotHad, TooMany
from unmetcells.rightness import program_fault
from unmetcells.standings import is_right
from unmetcells.steps import check_ask, do_step, meetings_in, run_program
from unmetcells.stretches import BarredStretch, all_partings, stretch_fault, stretch_joint, woven_rows
from unmetcells.stretchprogram import StretchProgram


class RowTeller:
    """A program that answers the rows of a parted history, had or not: hands keep to cells of their own; else `word`."""

    def __init__(self, book, history, seams, word):
        self.calls = book.calls
        self.stretches = parts_between(history, seams)
        self.word = word

    def first_cells(self):
        return {f"{at}:{hand}": 0 for at, part in enumerate(self.stretches) for hand in {entry[0] for entry in part}}

    def step(self, read, write, hand, call):
        check_ask(self.calls, hand, call)
        for at, part in enumerate(self.stretches):
            entries = [entry for entry in part if entry[0] == hand]
            if entries and read(f"{at}:{hand}") < len(entries):
                count = read(f"{at}:{hand}")
                if entries[count][1] != call:
                    return self.word
                write(f"{at}:{hand}", count + 1)
                return entries[count][2]
        return self.word


def parted_samples(seed, many, most=5):
    """So many histories with seams that are had."""
    dice = random.Random(seed)
    found = []
    for book, history in drawn_histories(seed, 3 * many, most):
        had = all_partings(book, history)
        if had and len(found) < many:
            found.append((book, history, dice.choice((had[0], had[0], dice.choice(had)))))
    return found


def plain_heard(book, history, seams, entries):
    """What is to be heard of a run, entry by entry, as [9.11] tells."""
    stretches = parts_between(history, seams)
    at, joint, made = 0, None, []
    for hand, call, answer in entries:
        if joint is None and (hand, call, answer) == next_entry(stretches[at], made, hand, call):
            made.append((hand, call, answer))
            if len(made) == len(stretches[at]) and at + 1 < len(stretches):
                at, made = at + 1, []
        else:
            if joint is None:
                joint = stretch_joint(book, history, seams, at, counts_made(stretches[at], made))
            joint = plain_onward(book, joint, call, answer)
    return ("stretch", at, counts_made(stretches[at], made)) if joint is None else ("one", joint)


def next_entry(stretch, made, hand, call):
    """The next entry of a hand in a stretch of which these entries are made, if it has this call; else None."""
    rest = [entry for entry in stretch if entry[0] == hand][len([entry for entry in made if entry[0] == hand]):]
    return rest[0] if rest and rest[0][1] == call else None


def counts_made(stretch, made):
    """The counts of a stretch of which these entries are made."""
    return tuple([entry[0] for entry in made].count(hand) for hand in sorted({entry[0] for entry in stretch}))


def belongs_there(history, seams, heard, hand, call):
    """The entry that a step makes if it belongs there, as [9.11] tells; else None."""
    if heard[0] == "one":
        return None
    stretch = parts_between(history, seams)[heard[1]]
    hands = sorted({entry[0] for entry in stretch})
    if hand not in hands:
        return None
    entries = [entry for entry in stretch if entry[0] == hand][heard[2][hands.index(hand)]:]
    return entries[0] if entries and entries[0][1] == call else None


class TestErrors(Case):

    def test_what_stretch_fault_raises(self):
        book = least_book(1, 1)
        ask, more = StretchProgram, ((),)
        for given in (more, (None,)):
            self.refuses(BadHistory, {"index": 0}, ask, book, None, *given)
            self.refuses(BadHistory, {"index": 401}, ask, book, [None] * 401, *given)
            self.refuses(BadHistory, {"index": 1}, ask, book, [(0, 0, 0), (0, True, 0)], *given)
            self.refuses(TooMany, {"most": 7}, ask, book, [(hand, 0, 0) for hand in range(8)], *given)
            self.refuses(TooMany, {"most": 4}, ask, book, [(hand, 0, 0) for hand in range(5)], *given)
        for thing in NOT_SEAMS:
            self.refuses(BadSeams, {}, ask, set_and_look(), LOOKED + ((3, 1, 0),), thing)
        self.refuses(TooMany, {"most": 300}, ask, Book(6, 3, WIDE_WAYS), ((0, 1, 0), (1, 0, 0)), ())
        self.assertEqual(len(ASKS), 9)

    def test_not_had(self):
        tried = 0
        for book, history in drawn_histories(271, 60, 5) + alive_histories():
            for seams in ((), tuple(range(1, len(history)))):
                fault = stretch_fault(book, history, seams)
                if fault is not None:
                    with self.assertRaises(NotHad) as caught:
                        StretchProgram(book, history, seams)
                    self.assertEqual(caught.exception.barred, fault)
                    self.assertIs(caught.exception.barred.__class__, BarredStretch)
                    self.assertEqual(list(vars(caught.exception)), ["barred"])
                    tried += 1
        self.assertGreater(tried, 40)

    def test_bad_asks_are_refused_ahead_of_reads_and_writes(self):
        for program in (StretchProgram(set_and_look(), LOOKED, (1,)), StretchProgram(set_and_look(), (), ())):
            self.refusesBadAsks(program)


class TestObject(Case):

    def test_attributes(self):
        for book, history, seams in parted_samples(272, 30):
            for entries, form in ((history, seams), (as_lists(history), list(seams))):
                program = StretchProgram(book, entries, form)
                self.assertEqual(program.book, book)
                self.assertSame((program.history, program.seams, program.calls), (history, seams, book.calls))
        self.assertSame(StretchProgram(book=set_and_look(), history=LOOKED, seams=[1]).seams, (1,))

    def test_first_cells(self):
        for book, history, seams in parted_samples(273, 30):
            self.hasFirstCells(StretchProgram(book, history, seams), StretchProgram(book, as_lists(history), list(seams)))

    def test_heard_at_first(self):
        for book, history, seams in parted_samples(274, 30):
            program = StretchProgram(book, history, seams)
            first = ("stretch", 0, plain_counts(parts_between(history, seams)[0])[0])
            self.assertSame(heard_from(program, program.first_cells()), first)
        self.assertSame(heard_from(StretchProgram(set_and_look(), (), ()), StretchProgram(set_and_look(), (), ()).first_cells()),
                        ("stretch", 0, ()))

    def test_what_is_passed_may_change_later(self):
        history, seams = as_lists(LOOKED), [1]
        program = StretchProgram(set_and_look(), history, seams)
        self.assertSame((history, seams), (as_lists(LOOKED), [1]))
        history[0][0] = 7
        history.pop()
        seams.clear()
        self.assertSame((program.history, program.seams), (LOOKED, (1,)))
        self.assertSame(run_program(program, ((0, 0), (1, 1), (2, 0))).answers, (0, 1, 0))
        cells = program.first_cells()
        _, _, behind = do_step(program, cells, 0, 0)
        self.assertEqual(cells, program.first_cells())
        behind.clear()
        self.assertSame(do_step(program, cells, 0, 0)[0], 0)


class TestSamples(Case):

    def test_set_and_look(self):
        program = StretchProgram(set_and_look(), LOOKED, (1,))
        told = [("stretch", 0, (0,)), ("stretch", 1, (0, 0)), ("stretch", 1, (0, 1)), ("stretch", 1, (1, 1)), ("one", ((1,),))]
        for many in range(5):
            run = run_program(program, ((0, 0), (2, 0), (1, 1), (1, 1))[:many])
            self.assertSame(run.answers, (0, 0, 1, 1)[:many])
            self.assertSame(heard_from(program, run.cells), told[many])
        self.assertSame(meetings_in(run_program(program, ((0, 0), (2, 0), (1, 1))), 1), ())

    def test_ways_to_leave_the_rows(self):
        history = ((0, 0, 0), (0, 0, 0), (1, 1, 1), (2, 1, 1), (1, 0, 0))
        program = StretchProgram(set_and_look(), history, (2,))
        for asks, heard in ((((5, 0),), ((1,),)),                           # a stranger
                            (((0, 1),), ((0,),)),                           # another call
                            (((0, 0), (0, 1)), ((1,),)),
                            (((1, 1),), ((0,),)),                           # an entry of a later stretch
                            (((0, 0), (2, 1)), ((1,),)),
                            (((0, 0), (0, 0), (0, 0)), ((1,),)),            # a hand without entries in this stretch
                            (((0, 0), (0, 0), (2, 1), (2, 1)), ((1,),)),    # a hand that has made all its entries
                            (((0, 0), (0, 0), (1, 0)), ((1,),)),            # a later entry of the hand
                            (((0, 0), (0, 0), (1, 1), (2, 1), (1, 0), (1, 0)), ((1,),))):
            ahead = run_program(program, asks[:-1])
            self.assertSame(heard_from(program, ahead.cells)[0], "stretch")
            run = run_program(program, asks)
            self.assertSame(heard_from(program, run.cells), ("one", heard))
            self.assertTrue(is_right(set_and_look(), run.entries))
            self.assertSame(heard_from(program, run_program(program, ((0, 0), (0, 0)), run.cells).cells), ("one", ((1,),)))

    def test_a_hand_that_is_done_with_a_stretch_that_is_not_over(self):
        history = ((3, 0, 0), (4, 0, 0), (3, 0, 0), (4, 0, 0))
        program = StretchProgram(least_book(1, 1), history, (2,))
        run = run_program(program, ((3, 0),))
        self.assertSame(heard_from(program, run.cells), ("stretch", 0, (1, 0)))
        self.assertSame(heard_from(program, run_program(program, ((3, 0), (3, 0))).cells), ("one", ((0,),)))
        self.assertSame(heard_from(program, run_program(program, ((3, 0), (4, 0), (3, 0))).cells), ("stretch", 1, (1, 0)))

    def test_a_bare_history(self):
        program = StretchProgram(full_book(1, 1), (), ())
        run = run_program(program, ((0, 0),))
        self.assertSame(heard_from(program, run.cells), ("one", ((0,),)))
        self.assertIs(program_fault(full_book(1, 1), program), None)

    def test_7_entries_of_4_hands(self):
        program = StretchProgram(least_book(1, 1), SEVEN, ())
        for row in list(woven_rows(least_book(1, 1), SEVEN, ()))[::30]:
            run = run_program(program, [entry[:2] for entry in row])
            self.assertSame(run.entries, row)
            self.assertSame(meetings_in(run), ())
            self.assertSame(heard_from(program, run.cells), ("stretch", 0, (1, 2, 2, 2)))


class TestRows(Case):

    def test_every_row_is_answered_and_no_steps_of_one_stretch_meet(self):
        many, rows = 0, 0
        for book, history, seams in parted_samples(275, 120, 6):
            program, stretches = StretchProgram(book, history, seams), parts_between(history, seams)
            places = [at for at, part in enumerate(stretches) for _ in part]
            seen = {}
            for row in list(woven_rows(book, history, seams))[:60]:
                run = run_program(program, [entry[:2] for entry in row])
                self.assertSame(run.entries, row)
                for one, other, _ in meetings_in(run):
                    self.assertNotEqual(places[one], places[other])
                for length in range(len(row) + 1):
                    cells = run_program(program, [entry[:2] for entry in row[:length]]).cells
                    heard = heard_from(program, cells)
                    self.assertSame(heard, plain_heard(book, history, seams, row[:length]))
                    self.assertEqual(seen.setdefault(heard, cells), cells)
                rows += 1
            many += any(len({entry[0] for entry in part}) > 1 for part in stretches)
        self.assertGreater(many, 30)
        self.assertGreater(rows, 300)

    def test_steps_that_belong_there_read_and_write_what_is_their_own(self):
        """Two steps of unlike hands that belong to one stretch do not meet, be they done one behind the other or not."""
        tried = 0
        for book, history, seams in parted_samples(276, 90, 7):
            program = StretchProgram(book, history, seams)
            run = run_program(program, ())
            for entry in history + ((None, None, None),):
                heard = heard_from(program, run.cells)
                heads = [ask for ask in product(range(10), range(book.calls)) if belongs_there(history, seams, heard, *ask)]
                for one, other in product(heads, repeat=2):
                    if one[0] != other[0]:
                        self.assertSame(meetings_in(run_program(program, (one, other), run.cells)), ())
                        self.assertEqual(run_program(program, (one, other), run.cells).cells,
                                         run_program(program, (other, one), run.cells).cells)
                        tried += 1
                if entry[0] is not None:
                    run = run_program(program, (entry[:2],), run.cells)
        self.assertGreater(tried, 100)

    def test_behind_the_rows(self):
        """[9.6]: a program that answers all rows without a meeting, of a history that is not had, is wrong somewhere."""
        tried = {True: 0, False: 0}
        for book, history in drawn_histories(277, 100, 4) + alive_histories():
            had = all_partings(book, history)
            for seams in ((), tuple(range(1, len(history)))):
                for word in book.answers:
                    program = RowTeller(book, history, seams, word)
                    places = [at for at, part in enumerate(parts_between(history, seams)) for _ in part]
                    for row in list(woven_rows(book, history, seams))[:10]:
                        run = run_program(program, [entry[:2] for entry in row])
                        self.assertSame(run.entries, row)
                        self.assertTrue(all(places[one] != places[other] for one, other, _ in meetings_in(run)))
                    right = program_fault(book, program) is None
                    if seams not in had:
                        self.assertIs(right, False)
                    tried[right] += 1
        self.assertGreater(tried[False], 40)


class TestRuns(Case):

    def explore(self, sample, program, cells, entries, asks, depth, seen):
        """Ask all rows of asks of this length behind the entries, and look at each step."""
        book, history, seams = sample
        heard = heard_from(program, cells)
        self.assertSame(heard, plain_heard(book, history, seams, entries))
        self.assertEqual(seen.setdefault(heard, cells), cells)
        ends = walk_ends(book, (0,), [entry[1:] for entry in entries])
        self.assertNotEqual(ends, (), entries)
        if heard[0] == "one":
            self.assertIn(heard[1], plain_safe(plain_reached(book, heard[1])))
            self.assertTrue(any(set(standing) <= set(ends) for standing in heard[1]))
        for hand, call in asks if depth > 0 else ():
            answer, marks, behind = do_step(program, cells, hand, call)
            self.assertEqual(set(behind), set(program.first_cells()))
            self.assertTrue(set(marks[0] + marks[1]) <= set(behind))
            self.assertTrue(all(is_plain_value(value) for value in behind.values()))
            entry = belongs_there(history, seams, heard, hand, call)
            if entry is None:
                self.assertSame(heard_from(program, behind)[0], "one")
            else:
                self.assertSame(answer, entry[2])
                self.assertSame(heard_from(program, behind)[0], "stretch")
            self.explore(sample, program, behind, entries + ((hand, call, answer),), asks, depth - 1, seen)

    def test_all_rows_of_asks_of_a_small_length(self):
        modes = set()
        for sample in parted_samples(278, 60, 5):
            book, history, seams = sample
            program, seen = StretchProgram(*sample), {}
            asks = list(product(sorted({entry[0] for entry in history} | {9}), range(book.calls)))
            self.explore(sample, program, program.first_cells(), (), asks, 3 if len(asks) < 6 else 2, seen)
            modes |= {heard[0] for heard in seen}
        self.assertEqual(modes, {"stretch", "one"})

    def test_behind_the_beginnings_of_rows(self):
        for sample in parted_samples(279, 60, 6):
            book, history, seams = sample
            program, seen = StretchProgram(*sample), {}
            asks = list(product(sorted({entry[0] for entry in history} | {7}), range(book.calls)))
            for row in list(woven_rows(*sample))[:5]:
                for length in range(len(row) + 1):
                    run = run_program(program, [entry[:2] for entry in row[:length]])
                    self.explore(sample, program, run.cells, row[:length], asks, 1, seen)

    def test_right_for_all_rows_of_asks(self):
        tried = 0
        for sample in parted_samples(280, 60, 4):
            self.assertIs(program_fault(sample[0], StretchProgram(*sample)), None)
            tried += 1
        self.assertGreater(tried, 40)

    def test_long_rows_of_asks(self):
        dice = random.Random(281)
        for sample in parted_samples(281, 60, 7):
            book, history, seams = sample
            program = StretchProgram(*sample)
            asks = [entry[:2] for entry in history[:dice.randrange(8)]]
            asks += [(dice.randrange(10), dice.randrange(book.calls)) for _ in range(60)]
            run = run_program(program, asks)
            self.assertNotEqual(walk_ends(book, (0,), [entry[1:] for entry in run.entries]), ())
            self.assertSame(heard_from(program, run.cells), plain_heard(book, history, seams, run.entries))

    def test_answers_behind_a_joint_of_several_standings(self):
        book = toss_and_show().with_way((1, 1, 1, 1))
        program = StretchProgram(book, ((4, 0, 0), (6, 0, 1)), ())
        self.assertSame(stretch_joint(book, program.history, (), 0, (1, 1)), ((1,), (2,)))
        for row in (((4, 0), (6, 0)), ((6, 0), (4, 0))):
            run = run_program(program, row + ((0, 1),))
            self.assertSame(run.answers[-1], 1)
            self.assertTrue(is_right(book, run.entries))


class TestCells(Case):

    def test_a_program_made_anew_goes_on(self):
        dice = random.Random(282)
        for book, history, seams in parted_samples(282, 60):
            one, other = StretchProgram(book, history, seams), StretchProgram(book, as_lists(history), list(seams))
            asks = [entry[:2] for entry in history[:dice.randrange(6)]]
            asks += [(dice.randrange(4), dice.randrange(book.calls)) for _ in range(6)]
            self.goesOn(one, other, asks, dice.randrange(len(asks)))

    def test_one_program_serves_several_dicts_in_turn(self):
        dice = random.Random(283)
        for sample in parted_samples(283, 40):
            rows = [[entry[:2] for entry in sample[1]] + [(dice.randrange(5), 0)] * 2 for _ in range(2)]
            rows[1] = rows[1][::-1]
            self.servesInTurn(StretchProgram(*sample), [StretchProgram(*sample) for _ in rows], rows)

    def test_what_a_step_does_depends_on_what_it_reads_alone(self):
        dice = random.Random(284)
        for book, history, seams in parted_samples(284, 60):
            program = StretchProgram(book, history, seams)
            asks = [entry[:2] for entry in history[:dice.randrange(6)]] + [(9, 0)] * dice.randrange(2)
            cells = run_program(program, asks).cells
            for hand, call in product(sorted({entry[0] for entry in history} | {8}), range(book.calls)):
                self.dependsOnReads(program, cells, hand, call)

    def test_heard_reads_cells_of_the_program_alone(self):
        for book, history, seams in parted_samples(285, 40):
            program = StretchProgram(book, history, seams)
            for asks in ((), [entry[:2] for entry in history], [(9, 0)] * 3):
                self.hearsOwnCells(program, asks)

    def test_a_program_that_has_left_the_rows_forgets_the_rest(self):
        program = StretchProgram(set_and_look(), LOOKED, (1,))
        rows = (((5, 0),), ((0, 0), (5, 1)), ((0, 0), (1, 1), (1, 1)), ((0, 0), (2, 0), (2, 0)), ((2, 0),), ((0, 1), (3, 0)))
        for row in rows:
            run = run_program(program, row)
            self.assertSame(heard_from(program, run.cells), ("one", ((1,),)))
            self.assertEqual(run.cells, run_program(program, rows[0]).cells)
