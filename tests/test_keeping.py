"""[6.8] and [6.9]."""

import random
from itertools import combinations, product

from tests.helper import (Case, cuts_in, drawn_wishes, least_book, likely_wishes, set_and_look, toss_and_show,
                          weavings_of)
from tests.test_foreign import LOOK, SAY, SET, drawn_foreign, rows_of
from tests.test_meetings import asks_of, book_of, drawn_lots, drawn_program
from tests.test_programs import had_wishes, look_wish
from unmetcells.cuts import cut_with, cuts_of, heads_at
from unmetcells.errors import UnlikeCalls
from unmetcells.foes import is_had
from unmetcells.foreign import Foreign
from unmetcells.keeping import Meets, Past, Unlike, kept_fault
from unmetcells.meetings import scripts_of
from unmetcells.programs import UnmetProgram
from unmetcells.rightness import program_fault
from unmetcells.scripts import Wish
from unmetcells.steps import check_ask, do_step, meeting_of, meetings_in, run_program


class Teller:
    """A program that tells a wish, had or not: the past, then each hand's script from a cell of its own, else `word`."""

    def __init__(self, wish, word=0):
        self.wish = wish
        self.word = word
        self.calls = wish.book.calls

    def first_cells(self):
        return dict({f"turn {hand}": () for hand in range(len(self.wish.scripts))}, count=0)

    def step(self, read, write, hand, call):
        check_ask(self.calls, hand, call)
        count = read("count")
        if count < len(self.wish.past):
            write("count", count + 1)
            return self.wish.past[count][2]
        if hand < len(self.wish.scripts):
            turn = read(f"turn {hand}")
            cut = tuple(turn if hand == other else () for other in range(len(self.wish.scripts)))
            for head in heads_at(self.wish, cut):
                if head[:2] == (hand, call):
                    write(f"turn {hand}", turn + (call,))
                    return head[2]
        return self.word


class Noisy(Teller):
    """A teller that, once it has told the past and a hand has made as many calls as `many`, writes a cell for all hands."""

    def __init__(self, wish, many):
        Teller.__init__(self, wish)
        self.many = many

    def first_cells(self):
        return dict(Teller.first_cells(self), all=0)

    def step(self, read, write, hand, call):
        if hand < len(self.wish.scripts) and len(read(f"turn {hand}")) == self.many:
            write("all", 0)
        return Teller.step(self, read, write, hand, call)


def cells_of(wish, program, cut):
    """The cells behind the past and the turns of a cut, hand after hand."""
    asks = [entry[:2] for entry in wish.past] + [(hand, call) for hand, turn in enumerate(cut) for call in turn]
    return run_program(program, asks).cells


def plain_kept(wish, program):
    """The first fault, cut by cut from the first cells on."""
    run = run_program(program, [entry[:2] for entry in wish.past])
    for index, entry in enumerate(wish.past):
        if run.entries[index] != entry:
            return Past(index)
    for cut in cuts_of(wish):
        cells = cells_of(wish, program, cut)
        steps = {head: do_step(program, cells, *head[:2]) for head in heads_at(wish, cut)}
        for head in sorted(steps):
            if steps[head][0] != head[2]:
                return Unlike(cut, head[0], head[1])
        for one, other in combinations(sorted(steps), 2):
            cell = meeting_of(steps[one][1], steps[other][1])
            if one[0] != other[0] and cell is not None:
                return Meets(cut, one[:2], other[:2], cell)
    return None


def every_weaving(wish, program):
    """Tell whether the program hears all weavings without two steps behind the past that meet, weaving by weaving."""
    for cut in cuts_of(wish):
        for row in weavings_of(wish, cut):
            run = run_program(program, [entry[:2] for entry in wish.past + row])
            if run.entries != wish.past + row or meetings_in(run, len(wish.past)):
                return False
    return True


def told_wishes(seed, many):
    """So many couples of a wish and a foreign program that tells most of it, with scripts that may be spoilt."""
    dice = random.Random(seed)
    found = []
    while len(found) < many:
        calls = dice.choice((1, 2, 2))
        program, lots = drawn_program(dice, calls), drawn_lots(dice, calls)
        past = [(dice.randrange(10), dice.randrange(calls)) for _ in range(dice.choice((0, 0, 1, 3)))]
        scripts = scripts_of(program, past, lots, dice.choice((1, 1, 2, 3) if calls == 1 else (1, 2)))
        history = run_program(program, past).entries
        if cuts_in(scripts) <= 200:
            wish = Wish(book_of(program), history, scripts)
            if dice.randrange(4) == 0 and asks_of(lots):
                wish = Wish(wish.book, history, [spoilt(dice, script) for script in scripts])
            found.append((wish, program))
    return found


def spoilt(dice, script):
    """The script with some answers changed."""
    return tuple((call, answer if dice.randrange(6) else (answer + 1) % 3, spoilt(dice, behind))
                 for call, answer, behind in script)


class TestResults(Case):

    def test_they_keep_what_they_are_given(self):
        self.isResult(Past, "index")
        self.isResult(Unlike, "cut", "hand", "call")
        self.isResult(Meets, "cut", "one", "other", "cell")


class TestFaults(Case):

    def fault(self, wish, program, wanted):
        found = kept_fault(wish, program)
        self.assertEqual(found, wanted)
        self.assertSame(vars(found), vars(wanted))
        self.assertTuples(tuple(vars(found).values()))

    def test_past(self):
        wish = Wish(set_and_look(), ((7, 1, 0), (9, 0, 0), (0, 1, 1)), ((), ()))
        self.assertIs(kept_fault(wish, Foreign((2,), rows_of(SET, LOOK))), None)
        self.fault(wish, Foreign((1,), rows_of(SAY, SAY)), Past(2))
        self.fault(wish, Foreign((1,), rows_of(("say", 1), ("say", 1))), Past(0))
        self.fault(wish, Foreign((1,), rows_of(("say", 1), SAY)), Past(1))

    def test_a_past_with_hands_0_to_9(self):
        for hands in (range(5), range(5, 10), (9, 0, 9, 4, 2, 3)):
            wish = Wish(least_book(1, 1), [(hand, 0, 0) for hand in hands], ((),))
            self.assertIs(kept_fault(wish, Foreign((1,), rows_of(SAY))), None)
            last = Foreign((1,), ((SAY,), (SAY,), (SAY,), (("say", 1),)))
            self.fault(wish, last, Past([hand for hand in hands if hand > 2] and [hand > 2 for hand in hands].index(True)))

    def test_steps_of_the_past_may_meet(self):
        wish = Wish(set_and_look(), ((0, 0, 0), (1, 1, 1), (2, 0, 0)), (((1, 1, ()),), ((1, 1, ()),)))
        self.assertIs(kept_fault(wish, Foreign((2,), rows_of(SET, LOOK))), None)

    def test_unlike(self):
        looks = (((0, 0, ()),), ((1, 1, ()),))
        program = Foreign((2,), rows_of(SET, LOOK))
        self.fault(Wish(set_and_look(), (), looks), program, Unlike(((), ()), 1, 1))
        self.fault(Wish(set_and_look(), (), (((0, 1, ()),), ((1, 1, ()),))), program, Unlike(((), ()), 0, 0))
        self.fault(Wish(set_and_look(), (), (((0, 0, ((0, 2, ()), (1, 0, ()))),),)), program, Unlike(((0,),), 0, 0))
        self.fault(Wish(set_and_look(), (), (((0, 0, ((0, 0, ()), (1, 0, ()))),),)), program, Unlike(((0,),), 0, 1))

    def test_meets(self):
        program = Foreign((2,), rows_of(SET, LOOK))
        self.fault(look_wish(), program, Meets(((), ()), (0, 0), (1, 1), "c0"))
        sets = Wish(set_and_look(), (), (((0, 0, ()),), ((0, 0, ()),)))
        self.fault(sets, program, Meets(((), ()), (0, 0), (1, 0), "c0"))
        three = Wish(set_and_look(), ((0, 0, 0),), (((1, 1, ()),), ((1, 1, ()),), ((0, 0, ()), (1, 1, ()))))
        self.fault(three, program, Meets(((), (), ()), (0, 1), (2, 0), "c0"))

    def test_a_value_that_stays_is_written_too(self):
        wish = Wish(set_and_look(), ((0, 0, 0),), (((0, 0, ()),), ((1, 1, ()),)))
        self.fault(wish, Foreign((2,), rows_of(SET, LOOK)), Meets(((), ()), (0, 0), (1, 1), "c0"))

    def test_the_least_cell_and_the_least_couple(self):
        wide = ("write", 1, 0, ("write", 0, 0, SAY))
        both = ("read", 1, (("read", 0, (SAY,)),))
        program = Foreign((1, 1), ((SAY, wide), (("read", 1, (SAY,)), SAY), (SAY, both), (SAY, SAY)))
        calls = ((0, 0, ()), (1, 0, ()))
        self.fault(Wish(least_book(1, 2), (), (calls, calls, calls)), program, Meets(((), (), ()), (0, 1), (1, 0), "c1"))
        self.fault(Wish(least_book(1, 2), (), (calls, ((1, 0, ()),), calls)), program, Meets(((), (), ()), (0, 1), (2, 1), "c0"))

    def test_answers_of_a_cut_come_ahead_of_its_meetings(self):
        program = Foreign((1,), rows_of(("write", 0, 0, SAY), ("say", 1)))
        wish = Wish(least_book(1, 2), (), (((0, 0, ()),), ((0, 0, ()),), ((1, 0, ()),)))
        self.fault(wish, program, Unlike(((), (), ()), 2, 1))
        later = Wish(least_book(1, 2), (), (((0, 0, ()),), ((0, 0, ((1, 0, ()),)),)))
        self.fault(later, program, Meets(((), ()), (0, 0), (1, 0), "c0"))

    def test_two_heads_of_one_hand_do_not_meet(self):
        program = Foreign((1,), rows_of(("write", 0, 0, SAY), ("write", 0, 0, SAY)))
        both = ((0, 0, ()), (1, 0, ()))
        self.assertIs(kept_fault(Wish(least_book(1, 2), (), (both, (), ())), program), None)

    def test_cuts_come_in_their_order(self):
        for wish in had_wishes(211, 60):
            for many in range(3):
                fault = kept_fault(wish, Noisy(wish, many))
                deep = [hand for hand, script in enumerate(wish.scripts) if self.has_turn(script, many + 1)]
                if fault is not None:
                    self.assertGreater(len(deep), 1)
                    self.assertEqual(sum(len(turn) for turn in fault.cut), 2 * many)
                    self.assertSame(fault.cell, "all")
                else:
                    self.assertLess(len(deep), 2)

    def has_turn(self, script, depth):
        """Tell whether the script has a turn of so many calls."""
        return depth == 0 or any(self.has_turn(row[2], depth - 1) for row in script)

    def test_against_a_plain_search(self):
        kinds = {}
        for wish, program in told_wishes(212, 400):
            wanted = plain_kept(wish, program)
            found = kept_fault(wish, program)
            self.assertEqual(found, wanted)
            if found is not None:
                self.assertTuples(tuple(vars(found).values()))
            kinds[found.__class__.__name__] = kinds.get(found.__class__.__name__, 0) + 1
        self.assertGreater(min(kinds.get(name, 0) for name in ("NoneType", "Unlike", "Meets")), 30, kinds)

    def test_drawn_programs(self):
        dice = random.Random(213)
        kinds = {}
        for wish in drawn_wishes(213, 60) + likely_wishes(214, 40):
            for program in (drawn_foreign(dice, wish.book.calls, 2), Teller(wish), Noisy(wish, dice.randrange(3))):
                wanted = plain_kept(wish, program)
                self.assertEqual(kept_fault(wish, program), wanted)
                kinds[wanted.__class__.__name__] = kinds.get(wanted.__class__.__name__, 0) + 1
        self.assertGreater(min(kinds.get(name, 0) for name in ("NoneType", "Past", "Unlike", "Meets")), 10, kinds)

    def test_against_every_weaving(self):
        found = {True: 0, False: 0}
        for wish, program in told_wishes(215, 200):
            fault = kept_fault(wish, program)
            self.assertIs(every_weaving(wish, program), fault is None)
            found[fault is None] += 1
            for cut in cuts_of(wish):
                if isinstance(fault, Past) or fault is not None and fault.cut == cut:
                    break
                cells = cells_of(wish, program, cut)
                for row in weavings_of(wish, cut)[:8]:
                    self.assertEqual(run_program(program, [entry[:2] for entry in wish.past + row]).cells, cells)
        self.assertGreater(min(found.values()), 40)

    def test_a_fault_is_heard_in_a_weaving(self):
        """At the cut of a fault, some weaving with one entry or two more is not heard, or its last steps meet."""
        tried = 0
        for wish, program in told_wishes(216, 150):
            fault = kept_fault(wish, program)
            if isinstance(fault, Unlike):
                answer = do_step(program, cells_of(wish, program, fault.cut), fault.hand, fault.call)[0]
                wanted = [head[2] for head in heads_at(wish, fault.cut) if head[:2] == (fault.hand, fault.call)]
                self.assertNotEqual([answer], wanted)
            if isinstance(fault, Meets):
                self.assertLess(fault.one, fault.other)
                cut = cut_with(cut_with(fault.cut, *fault.one), *fault.other)
                self.assertIn(cut, cuts_of(wish))
                run = run_program(program, [fault.one, fault.other], cells_of(wish, program, fault.cut))
                self.assertNotEqual(meetings_in(run), ())
                tried += 1
        self.assertGreater(tried, 10)

    def test_unlike_calls_come_first(self):
        wish = Wish(set_and_look(), ((0, 0, 0),), ((),))
        for calls in (1, 3, 4):
            self.refuses(UnlikeCalls, {}, kept_fault, wish, Foreign((1,), rows_of(*[("say", 2)] * calls)))
        self.refuses(UnlikeCalls, {}, kept_fault, Wish(least_book(1, 1), (), ((),)), UnmetProgram(look_wish()))

    def test_the_wish_stays(self):
        wish, program = look_wish(), Foreign((2,), rows_of(SET, LOOK))
        kept_fault(wish, program)
        self.assertEqual(wish, look_wish())
        self.assertEqual(program, Foreign((2,), rows_of(SET, LOOK)))


class TestWhatThisDecides(Case):
    """[6.9]."""

    def test_programs_of_wishes_keep_them_and_are_right(self):
        for wish in had_wishes(217, 80) + [look_wish()]:
            program = UnmetProgram(wish)
            self.assertIs(kept_fault(wish, program), None)
            self.assertIs(program_fault(wish.book, program), None)

    def test_a_right_program_that_keeps_a_wish_shows_that_it_is_had(self):
        tried = 0
        for wish, program in told_wishes(218, 200):
            self.assertIs(program_fault(wish.book, program, 4), None)
            if kept_fault(wish, program) is None:
                self.assertIs(is_had(wish), True)
                tried += len([script for script in wish.scripts if script]) > 1
        self.assertGreater(tried, 20)

    def test_a_program_that_keeps_a_wish_that_is_not_had_is_wrong(self):
        tried = 0
        for wish in likely_wishes(219, 150) + [Wish(toss_and_show(), (), (((0, 0, ()),), ((0, 1, ()),)))]:
            for word in wish.book.answers if not is_had(wish) else ():
                program = Teller(wish, word)
                self.assertIs(kept_fault(wish, program), None)
                self.assertIsNot(program_fault(wish.book, program, len(wish.scripts) + 1), None)
                tried += 1
        self.assertGreater(tried, 60)

    def test_less_of_a_wish_is_kept_too(self):
        for wish, program in told_wishes(220, 60):
            if kept_fault(wish, program) is None:
                for hand, call in product(range(len(wish.scripts)), range(wish.book.calls)):
                    scripts = list(wish.scripts)
                    scripts[hand] = tuple(row for row in scripts[hand] if row[0] != call)
                    self.assertIs(kept_fault(Wish(wish.book, wish.past, scripts), program), None)
