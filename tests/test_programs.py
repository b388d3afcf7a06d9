"""[5.1], [5.2], [5.6] to [5.10] and [5.12], and of [0.3] what it says of UnmetProgram."""

import random
from itertools import product

from tests.helper import (TOSS_SCRIPTS, Case, as_lists, drawn_wishes, full_book, full_script, heard_from, is_plain_value,
                          least_book, likely_wishes, plain_onward, plain_reached, plain_safe, set_and_look, toss_and_show,
                          walk_ends, weavings_of)
from tests.test_foes import wide_wish
from tests.test_safety import loose_toss
from unmetcells.cuts import cut_with, cuts_of, heads_at
from unmetcells.errors import NotHad, TooMany
from unmetcells.foes import is_had, wish_fault
from unmetcells.joints import joint_at
from unmetcells.programs import UnmetProgram
from unmetcells.scripts import Wish
from unmetcells.standings import standing_of
from unmetcells.steps import do_step, meetings_in, run_program

LOOK = (((0, 0, ()),), ((1, 1, ()),))


def look_wish():
    """The wish of [5.12]."""
    return Wish(set_and_look(), ((0, 0, 0),), LOOK)


def had_wishes(seed, many):
    """Wishes that are had, with pasts and without, with 1 to 3 scripts."""
    return [wish for wish in drawn_wishes(seed, many) + likely_wishes(seed + 1, many) if is_had(wish)]


def plain_heard(wish, entries):
    """What is to be heard of a run, entry by entry, as [5.7] and [5.8] tell."""
    heard = ("past", 0) if wish.past else ("apart", ((),) * len(wish.scripts))
    for at, (hand, call, answer) in enumerate(entries):
        mode, found = heard
        if mode == "past" and wish.past[found][:2] == (hand, call):
            heard = ("past", found + 1) if found + 1 < len(wish.past) else ("apart", ((),) * len(wish.scripts))
        elif mode == "past":
            heard = ("one", plain_onward(wish.book, (standing_of(wish.book, wish.past[:found]),), call, answer))
        elif mode == "apart" and (hand, call) in [head[:2] for head in heads_at(wish, found)]:
            heard = ("apart", cut_with(found, hand, call))
        elif mode == "apart":
            heard = ("one", plain_onward(wish.book, joint_at(wish, found), call, answer))
        else:
            heard = ("one", plain_onward(wish.book, found, call, answer))
    return heard


class TestErrors(Case):

    def test_not_had(self):
        tried = 0
        for wish in drawn_wishes(151, 60) + likely_wishes(152, 60) + [Wish(set_and_look(), (), LOOK)]:
            barred = wish_fault(wish)
            if barred is not None:
                with self.assertRaises(NotHad) as caught:
                    UnmetProgram(wish)
                self.assertEqual(caught.exception.barred, barred)
                self.assertEqual(list(vars(caught.exception)), ["barred"])
                tried += 1
        self.assertGreater(tried, 50)

    def test_too_many(self):
        self.refuses(TooMany, {"most": 300}, UnmetProgram, wide_wish())

    def test_bad_asks_are_refused_ahead_of_reads_and_writes(self):
        for program in (UnmetProgram(look_wish()), UnmetProgram(Wish(loose_toss(), (), TOSS_SCRIPTS))):
            self.refusesBadAsks(program)


class TestExample(Case):

    def test_example(self):
        program = UnmetProgram(look_wish())
        run = run_program(program, ((0, 0), (1, 1), (0, 0), (5, 1)))
        self.assertSame(run.answers, (0, 1, 0, 1))
        self.assertNotIn((1, 2), [row[:2] for row in meetings_in(run)])
        self.assertSame(heard_from(program, run_program(program, ((0, 0), (1, 1), (0, 0))).cells),
                        ("apart", ((0,), (1,))))
        self.assertSame(heard_from(program, run.cells), ("one", ((1,),)))

    def test_with_the_bare_past(self):
        with self.assertRaises(NotHad):
            UnmetProgram(Wish(set_and_look(), (), LOOK))


class TestObject(Case):

    def test_attributes(self):
        for wish in had_wishes(153, 30):
            program = UnmetProgram(wish)
            self.assertEqual(program.wish, wish)
            self.assertSame(program.calls, wish.book.calls)
        self.assertEqual(UnmetProgram(wish=look_wish()).wish, look_wish())

    def test_first_cells(self):
        for wish in had_wishes(154, 30):
            self.hasFirstCells(UnmetProgram(wish), UnmetProgram(wish))

    def test_heard_at_first(self):
        for wish in had_wishes(155, 30):
            program = UnmetProgram(wish)
            self.assertSame(heard_from(program, program.first_cells()), plain_heard(wish, ()))

    def test_what_is_passed_may_change_later(self):
        past, scripts = [[0, 0, 0]], as_lists(LOOK)
        program = UnmetProgram(Wish(set_and_look(), past, scripts))
        past[0][0] = 7
        scripts[0].clear()
        self.assertSame(run_program(program, ((0, 0), (1, 1), (0, 0), (5, 1))).answers, (0, 1, 0, 1))
        cells = program.first_cells()
        _, _, behind = do_step(program, cells, 0, 0)
        self.assertEqual(cells, program.first_cells())
        behind.clear()
        self.assertSame(do_step(program, cells, 0, 0)[0], 0)


class TestRuns(Case):

    def explore(self, wish, program, cells, entries, asks, depth, seen):
        """Ask all rows of asks of this length behind the entries, and look at each step."""
        heard = heard_from(program, cells)
        self.assertSame(heard, plain_heard(wish, entries))
        self.assertEqual(seen.setdefault(heard, cells), cells)
        ends = walk_ends(wish.book, (0,), [entry[1:] for entry in entries])
        self.assertNotEqual(ends, (), entries)
        if heard[0] == "one":
            self.assertIn(heard[1], plain_safe(plain_reached(wish.book, heard[1])))
            self.assertTrue(any(set(standing) <= set(ends) for standing in heard[1]))
        for hand, call in asks if depth > 0 else ():
            answer, marks, behind = do_step(program, cells, hand, call)
            self.assertEqual(set(behind), set(program.first_cells()))
            self.assertTrue(set(marks[0] + marks[1]) <= set(behind))
            self.assertTrue(all(is_plain_value(value) for value in behind.values()))
            if heard[0] == "past" and wish.past[heard[1]][:2] == (hand, call):
                self.assertSame(answer, wish.past[heard[1]][2])
            if heard[0] == "apart" and (hand, call) in [head[:2] for head in heads_at(wish, heard[1])]:
                self.assertIn((hand, call, answer), heads_at(wish, heard[1]))
            self.explore(wish, program, behind, entries + ((hand, call, answer),), asks, depth - 1, seen)

    def test_all_rows_of_asks_of_a_small_length(self):
        modes = set()
        for wish in had_wishes(156, 30):
            program, seen = UnmetProgram(wish), {}
            hands = sorted(set(range(len(wish.scripts) + 1)) | {entry[0] for entry in wish.past} | {9})
            asks = list(product(hands, range(wish.book.calls)))
            self.explore(wish, program, program.first_cells(), (), asks, 3 if len(asks) < 9 else 2, seen)
            modes |= {heard[0] for heard in seen}
        self.assertEqual(modes, {"past", "apart", "one"})

    def test_behind_the_past_and_at_all_cuts(self):
        for wish in had_wishes(157, 30):
            program, seen = UnmetProgram(wish), {}
            asks = list(product(range(len(wish.scripts) + 1), range(wish.book.calls)))
            for cut in cuts_of(wish):
                for row in weavings_of(wish, cut)[:4]:
                    run = run_program(program, [entry[:2] for entry in wish.past + row])
                    self.explore(wish, program, run.cells, wish.past + row, asks, 1, seen)

    def test_long_rows_of_asks(self):
        dice = random.Random(158)
        for wish in had_wishes(158, 60):
            program = UnmetProgram(wish)
            heads = [entry[:2] for entry in wish.past[:dice.randrange(7)]]
            asks = heads + [(dice.randrange(10), dice.randrange(wish.book.calls)) for _ in range(60)]
            run = run_program(program, asks)
            self.assertNotEqual(walk_ends(wish.book, (0,), [entry[1:] for entry in run.entries]), ())
            self.assertSame(heard_from(program, run.cells), plain_heard(wish, run.entries))

    def test_200_asks(self):
        program = UnmetProgram(Wish(loose_toss(), (), TOSS_SCRIPTS))
        run = run_program(program, [(hand % 10, hand // 10 % 2) for hand in range(200)])
        self.assertNotEqual(standing_of(loose_toss(), run.entries), ())


class TestWeavings(Case):

    def test_every_weaving_is_heard_and_no_two_steps_meet(self):
        """The main promise, [0.3]."""
        many, weavings = 0, 0
        for wish in had_wishes(159, 150):
            program = UnmetProgram(wish)
            for cut in cuts_of(wish):
                behind = []
                for row in weavings_of(wish, cut):
                    run = run_program(program, [entry[:2] for entry in wish.past + row])
                    self.assertSame(run.entries, wish.past + row)
                    self.assertSame(meetings_in(run, len(wish.past)), ())
                    self.assertSame(heard_from(program, run.cells), ("apart", cut))
                    behind.append(run.cells)
                self.assertTrue(all(cells == behind[0] for cells in behind))
                weavings += len(behind)
                many += len(behind) > 1
        self.assertGreater(many, 60)
        self.assertGreater(weavings, 600)

    def test_steps_behind_the_past_read_and_write_what_is_their_own(self):
        wish = Wish(full_book(1, 2), ((2, 0, 0),), (full_script(2, 2), full_script(2, 2), full_script(2, 1)))
        program = UnmetProgram(wish)
        for cut in cuts_of(wish):
            for row in weavings_of(wish, cut)[:6]:
                run = run_program(program, [entry[:2] for entry in wish.past + row])
                self.assertSame(run.entries, wish.past + row)
                self.assertSame(meetings_in(run, 1), ())

    def test_1_2_and_3_hands_and_hands_without_a_script(self):
        for hands in (1, 2, 3):
            program = UnmetProgram(Wish(full_book(1, 1), (), (full_script(1, 3),) * hands))
            run = run_program(program, [(hand, 0) for hand in range(hands)] * 3)
            self.assertSame(run.answers, (0,) * (3 * hands))
            self.assertSame(meetings_in(run), ())
            self.assertSame(heard_from(program, run.cells), ("apart", ((0, 0, 0),) * hands))
            for hand in range(hands, 10):
                self.assertSame(heard_from(program, run_program(program, ((hand, 0),)).cells), ("one", ((0,),)))
            for hand in range(hands):
                behind = run_program(program, ((hand, 0),), run.cells)
                self.assertSame(heard_from(program, behind.cells), ("one", ((0,),)))

    def test_a_past_of_6_entries(self):
        past = ((0, 0, 1), (1, 1, 1), (9, 1, 1), (0, 0, 0), (3, 0, 1), (0, 1, 1))
        wish = Wish(toss_and_show(), past, (((1, 1, ((1, 1, ()),)),), ((1, 1, ()),)))
        program = UnmetProgram(wish)
        for count in range(7):
            run = run_program(program, [entry[:2] for entry in past[:count]])
            self.assertSame(run.entries, past[:count])
            heard = ("past", count) if count < 6 else ("apart", ((), ()))
            self.assertSame(heard_from(program, run.cells), heard)
            for hand, call in product((0, 1, 3, 9), (0, 1)):
                answer, _, cells = do_step(program, run.cells, hand, call)
                entries = past[:count] + ((hand, call, answer),)
                self.assertSame(heard_from(program, cells), plain_heard(wish, entries))
                self.assertNotEqual(standing_of(toss_and_show(), entries), ())

    def test_the_past_does_not_move_turns(self):
        wish = Wish(full_book(1, 1), ((0, 0, 1), (0, 0, 2)), (((0, 0, ()),),))
        run = run_program(UnmetProgram(wish), ((0, 0),) * 3)
        self.assertSame(run.answers, (1, 2, 0))

    def test_bare_scripts(self):
        for past in ((), ((4, 0, 0),)):
            program = UnmetProgram(Wish(least_book(2, 1), past, ((), ())))
            run = run_program(program, [(4, 0), (0, 0), (1, 0)])
            self.assertSame(run.answers, (0, 0, 0))
            self.assertSame(heard_from(program, run.cells), ("one", ((0,),)))


class TestCells(Case):

    def test_a_program_made_anew_goes_on(self):
        dice = random.Random(160)
        for wish in had_wishes(160, 40):
            one, other = UnmetProgram(wish), UnmetProgram(Wish(wish.book, as_lists(wish.past), as_lists(wish.scripts)))
            asks = [entry[:2] for entry in wish.past] + [(dice.randrange(4), dice.randrange(wish.book.calls)) for _ in range(8)]
            self.goesOn(one, other, asks, dice.randrange(len(asks)))

    def test_one_program_serves_several_dicts_in_turn(self):
        dice = random.Random(161)
        for wish in had_wishes(161, 40):
            rows = [[(dice.randrange(3), dice.randrange(wish.book.calls)) for _ in range(6)] for _ in range(3)]
            self.servesInTurn(UnmetProgram(wish), [UnmetProgram(wish) for _ in rows], rows)

    def test_what_a_step_does_depends_on_what_it_reads_alone(self):
        dice = random.Random(162)
        for wish in had_wishes(162, 30):
            program = UnmetProgram(wish)
            asks = [entry[:2] for entry in wish.past]
            asks += [(dice.randrange(3), dice.randrange(wish.book.calls)) for _ in range(3)]
            cells = run_program(program, asks).cells
            for hand, call in product(range(3), range(wish.book.calls)):
                self.dependsOnReads(program, cells, hand, call)

    def test_heard_reads_cells_of_the_program_alone(self):
        for wish in had_wishes(163, 30):
            program = UnmetProgram(wish)
            for asks in ((), [entry[:2] for entry in wish.past], [(9, 0)] * 3):
                self.hearsOwnCells(program, asks)

    def test_a_program_that_has_become_one_forgets_the_rest(self):
        program = UnmetProgram(look_wish())
        rows = (((0, 0), (1, 1), (0, 0), (5, 1)), ((0, 0), (5, 1)), ((0, 0), (0, 0), (5, 0)), ((5, 0),), ((0, 0), (9, 0), (3, 1)))
        for row in rows:
            run = run_program(program, row)
            self.assertSame(heard_from(program, run.cells), ("one", ((1,),)))
            self.assertEqual(run.cells, run_program(program, rows[0]).cells)
