"""Over the whole program: the main promise [0.3] both ways, and each sentence of [0.4]."""

import random
from itertools import combinations, product

from tests.helper import (TOSS_SCRIPTS, Case, all_ways, drawn_histories, ends_behind, likely_wishes, parts_between, plain_joint,
                          plain_onward, plain_reached, plain_safe, plain_trimmed, rows_across, toss_and_show, walk_ends,
                          weavings_of)
from tests.test_fullwish import full_samples
from tests.test_heads import plain_wishes
from tests.test_keeping import Teller, told_wishes
from tests.test_loosen import pool_samples
from tests.test_meetings import asks_of, drawn_program
from tests.test_stretchprogram import RowTeller
from unmetcells.bench import Bench
from unmetcells.covers import looser_fault
from unmetcells.cuts import cuts_of
from unmetcells.edits import edited
from unmetcells.errors import HasFull, NotHad
from unmetcells.foes import is_had, wish_fault
from unmetcells.fullwish import full_refusal, full_refusal_fault, full_wish
from unmetcells.heads import heads_fault, pass_at, passing_calls
from unmetcells.keeping import Unlike, kept_fault
from unmetcells.likeness import merged_book
from unmetcells.loosen import loosen_fault, loosened_wish, loosenings
from unmetcells.meetings import meet_fault, scripts_of
from unmetcells.programs import UnmetProgram
from unmetcells.rightness import program_fault
from unmetcells.scripts import Wish
from unmetcells.standings import is_right
from unmetcells.steps import meetings_in, run_program
from unmetcells.stretches import fewest_stretches, stretch_fault, woven_rows
from unmetcells.stretchprogram import StretchProgram
from unmetcells.wishtexts import read_wish, wish_text


def all_joints_safe(wish):
    """Tell whether the joint at every cut is safe, by plain searches alone."""
    for cut in cuts_of(wish):
        joint = plain_joint(wish, cut)
        if joint not in plain_safe(plain_reached(wish.book, joint)):
            return False
    return True


def small(wishes):
    """Those of the wishes that have few weavings at the last cut."""
    return [wish for wish in wishes if len(cuts_of(wish)) <= 16]


class TestMainPromise(Case):
    """[0.3]."""

    def test_had_exactly_if_all_joints_are_safe(self):
        found = {True: 0, False: 0}
        for wish in small(likely_wishes(401, 120)):
            safe = all_joints_safe(wish)
            self.assertIs(is_had(wish), safe)
            self.assertIs(wish_fault(wish) is None, safe)
            found[safe] += 1
        self.assertGreater(min(found.values()), 20)

    def test_had_wishes_have_a_program(self):
        """Right for all calls of all hands, and every weaving is heard without two steps behind the past that meet."""
        tried = 0
        for wish in small(likely_wishes(402, 120)):
            if all_joints_safe(wish):
                program = UnmetProgram(wish)
                self.assertIs(kept_fault(wish, program), None)
                self.assertIs(program_fault(wish.book, program), None)
                for cut in cuts_of(wish):
                    for row in weavings_of(wish, cut):
                        run = run_program(program, [entry[:2] for entry in wish.past + row])
                        self.assertSame(run.entries, wish.past + row)
                        self.assertSame(meetings_in(run, len(wish.past)), ())
                tried += len(wish.scripts) > 1
        self.assertGreater(tried, 20)

    def test_other_wishes_have_none(self):
        """Each program that hears the weavings without a meeting is wrong; and the plan at the barred cut shows how."""
        tried = 0
        for wish in small(likely_wishes(403, 120)):
            if not all_joints_safe(wish):
                with self.assertRaises(NotHad):
                    UnmetProgram(wish)
                for word in wish.book.answers:
                    program = Teller(wish, word)
                    self.assertIs(kept_fault(wish, program), None)
                    self.assertIsNot(program_fault(wish.book, program), None)
                tried += self.some_order_ends_wrong(wish)
        self.assertGreater(tried, 20)

    def some_order_ends_wrong(self, wish):
        """Go down the plan with all rows of answers, and want a wrong history at the end of each."""
        barred = wish_fault(wish)
        plan = dict(barred.plan)
        for answers in product(range(3), repeat=min(len(plan) - 1, 4)):
            rows, joint = list(weavings_of(wish, barred.cut)), barred.joint
            for answer in answers:
                if plan[joint] is not None:
                    rows = [row + ((9, plan[joint], answer),) for row in rows]
                    joint = plain_onward(wish.book, joint, plan[joint], answer)
            if len(plan) <= 5:
                self.assertIn((), [ends_behind(wish, row) for row in rows])
        return len(plan) <= 5

    def test_programs_that_are_right_and_keep_a_wish(self):
        """Whatever the program is: drawn ones, and those of other wishes over the same book."""
        tried = 0
        for wish, program in told_wishes(404, 200):
            if kept_fault(wish, program) is None and program_fault(wish.book, program) is None:
                self.assertIs(all_joints_safe(wish), True)
                tried += len([script for script in wish.scripts if script]) > 1
        self.assertGreater(tried, 20)
        for wish in small(likely_wishes(405, 60)):
            if is_had(wish):
                for less in range(len(wish.scripts)):
                    scripts = [script if hand != less else () for hand, script in enumerate(wish.scripts)]
                    self.assertIs(kept_fault(Wish(wish.book, wish.past, scripts), UnmetProgram(wish)), None)

    def test_all_weavings_at_a_cut_leave_the_same_cells(self):
        for wish in small(likely_wishes(406, 60)):
            if is_had(wish):
                program = UnmetProgram(wish)
                for cut in cuts_of(wish):
                    rows = [[entry[:2] for entry in wish.past + row] for row in weavings_of(wish, cut)]
                    behind = [run_program(program, row).cells for row in rows]
                    self.assertTrue(all(cells == behind[0] for cells in behind))

    def test_the_text_of_a_wish_is_judged_alike(self):
        for wish in small(likely_wishes(407, 40)):
            self.assertEqual(wish_fault(read_wish(wish_text(wish))), wish_fault(wish))


class TestMorePromises(Case):
    """[0.4]."""

    def test_looser_books_keep_wishes(self):
        dice = random.Random(411)
        tried = 0
        for wish in small(likely_wishes(411, 100)):
            missing = [way for way in all_ways(wish.book.states, wish.book.calls) if way not in wish.book]
            books = [wish.book.with_way(way) for way in dice.sample(missing, min(3, len(missing)))] + [merged_book(wish.book)]
            for book in books:
                self.assertIs(looser_fault(wish.book, book), None)
                if is_had(wish):
                    self.assertIs(is_had(Wish(book, wish.past, wish.scripts)), True)
                    tried += 1
            self.assertIs(is_had(Wish(merged_book(wish.book), wish.past, wish.scripts)), is_had(wish))
        self.assertGreater(tried, 60)

    def test_a_table_that_is_right_and_never_meets_shows_that_its_wish_is_had(self):
        dice = random.Random(412)
        tried = 0
        for wish, program in told_wishes(412, 250):
            lots = [[row[0] for row in script] for script in wish.scripts]
            past = [entry[:2] for entry in wish.past]
            right = program_fault(wish.book, program, 4) is None
            long = [(dice.randrange(10), dice.randrange(program.calls)) for _ in range(60)]
            if right:
                self.assertIs(is_right(wish.book, run_program(program, long).entries), True)
            if right and meet_fault(program, past, lots) is None:
                row = past + [dice.choice(asks_of(lots)) for _ in range(60 if asks_of(lots) else 0)]
                self.assertSame(meetings_in(run_program(program, row), len(past)), ())
                self.assertIs(is_had(Wish(wish.book, wish.past, scripts_of(program, past, lots, 1))), True)
                tried += len([lot for lot in lots if lot]) > 1
        self.assertGreater(tried, 20)

    def test_tables_are_judged_for_rows_of_any_length(self):
        dice = random.Random(413)
        found = {True: 0, False: 0}
        for wish in likely_wishes(413, 60):
            program = drawn_program(dice, wish.book.calls)
            fault = program_fault(wish.book, program, 4)
            if fault is not None:
                self.assertIs(is_right(wish.book, run_program(program, fault).entries), False)
                self.assertIs(is_right(wish.book, run_program(program, fault[:-1]).entries), True)
            found[fault is None] += 1
        self.assertGreater(found[False], 20)

    def test_books_without_choice(self):
        found = {True: 0, False: 0}
        for wish in plain_wishes(414, 150):
            self.assertIs(heads_fault(wish) is None, is_had(wish))
            found[is_had(wish)] += 1
            for one, other in passing_calls(wish.book):
                self.assertIs(pass_at(wish.book, 0, one, other), True)
        self.assertGreater(min(found.values()), 30)

    def test_all_scripts_of_a_depth(self):
        found = {True: 0, False: 0}
        for sample in full_samples(415, 120):
            book, past, hands, depth = sample
            scripts = full_wish(*sample)
            if scripts is None:
                self.assertIs(full_refusal_fault(*sample, full_refusal(*sample)), None)
            else:
                program = UnmetProgram(Wish(book, past, scripts))
                self.assertIs(kept_fault(program.wish, program), None)
                with self.assertRaises(HasFull):
                    full_refusal(*sample)
            found[scripts is None] += 1
        self.assertGreater(min(found.values()), 4)

    def test_the_fewest_stretches(self):
        tried = 0
        for book, history in drawn_histories(416, 100, 6):
            if is_right(book, history):
                parting = fewest_stretches(book, history)
                self.assertIs(stretch_fault(book, history, parting.seams), None)
                for fewer in range(len(parting.seams)):
                    for seams in combinations(range(1, len(history)), fewer):
                        self.assertIsNot(stretch_fault(book, history, seams), None)
                program = StretchProgram(book, history, parting.seams)
                for row in list(woven_rows(book, history, parting.seams))[:20]:
                    self.assertSame(run_program(program, [entry[:2] for entry in row]).entries, row)
                for at, joint in enumerate(parting.joints):
                    rows = rows_across(parts_between(history, parting.seams)[:at + 1])
                    self.assertSame(joint, plain_trimmed([walk_ends(book, (0,), [entry[1:] for entry in row]) for row in rows]))
                tried += len(parting.seams) > 0
        self.assertGreater(tried, 15)

    def test_fewer_stretches_are_not_answered_by_a_right_program(self):
        tried = 0
        for book, history in drawn_histories(417, 80, 4):
            if is_right(book, history):
                seams = fewest_stretches(book, history).seams
                for fewer in combinations(range(1, len(history)), len(seams) - 1) if seams else ():
                    for word in book.answers:
                        self.assertIsNot(program_fault(book, RowTeller(book, history, fewer, word)), None)
                        tried += 1
        self.assertGreater(tried, 20)

    def test_least_loosenings_and_edits(self):
        tried = 0
        for wish, pool in pool_samples(418, 150, 4):
            bench = Bench(wish, [("had",)])
            for lot in loosenings(wish, pool):
                self.assertIs(loosen_fault(wish, lot), None)
                edits = [("way", way) for way in lot]
                self.assertEqual(edited(wish, edits), loosened_wish(wish, lot))
                self.assertSame(bench.trial(edits).met, (0,))
                for at in range(len(edits)):
                    self.assertSame(bench.trial(edits[:at] + edits[at + 1:]).met, ())
                self.assertIs(kept_fault(loosened_wish(wish, lot), UnmetProgram(loosened_wish(wish, lot))), None)
                tried += len(lot)
        self.assertGreater(tried, 10)

    def test_from_a_wish_to_its_program(self):
        """The samples of the document, through all parts."""
        wish = Wish(toss_and_show(), (), TOSS_SCRIPTS)
        lot = loosenings(wish, [(1, 1, 1, 1), (0, 1, 1, 0)])[0]
        bench = Bench(wish, [("had",), ("depth", 2, 1), ("seams", ((0, 0, 0), (1, 0, 1)), 0)])
        bench.do([("way", way) for way in lot])
        self.assertSame(bench.goals_met(), (0, 1, 2))
        program = UnmetProgram(bench.wish)
        self.assertIs(program_fault(bench.wish.book, program), None)
        self.assertIs(kept_fault(bench.wish, program), None)
        parted = StretchProgram(bench.wish.book, ((0, 0, 0), (1, 0, 1)), ())
        self.assertIs(program_fault(bench.wish.book, parted), None)
        self.assertIs(kept_fault(Wish(bench.wish.book, (), full_wish(bench.wish.book, (), 2, 1)), program).__class__, Unlike)
