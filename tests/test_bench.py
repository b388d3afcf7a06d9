"""[10.8] to [10.11], and of [10.12] what it says of the bench."""

import random
from itertools import product

from tests.helper import (NOT_NUMBERS, NOT_SEQUENCES, TOSS_SCRIPTS, Case, all_ways, as_lists, as_tuples, cuts_in, drawn_wishes,
                          least_book, likely_wishes, mixed_forms, set_and_look, toss_and_show)
from tests.test_edits import deep_wish, drawn_edit
from tests.test_foes import wide_wish
from tests.test_fullwish import counter
from tests.test_loosen import toss_wish
from tests.test_stretches import LOOKED, SEVEN
from unmetcells.bench import Bench, Trial, check_goals, is_met
from unmetcells.edits import edited
from unmetcells.errors import BadEdit, BadGoal, NothingDone, TooMany
from unmetcells.foes import is_had
from unmetcells.fullwish import full_places, full_wish
from unmetcells.scripts import Wish, turns_of
from unmetcells.stretches import all_partings

LOOSE = ("way", (1, 1, 1, 1))

# Things that are no goals for a book of two states and two calls.
NOT_GOALS = NOT_SEQUENCES + (
    "had", "depth", (), [], (None,), ("Had",), ("",), (b"had",), (("had",),), (["had"],), ({},), (0,), ("had", ()), ("had", None),
    ("depth",), ("depth", 1), ("depth", 1, 1, 1), ("depth", 0, 1), ("depth", 4, 0), ("depth", 1, -1), ("depth", 1, 4),
    ("depth", -1, 0),
    ("depth", 10 ** 100, 0), ("depth", 1, 3), ("depth", 2, 2), ("depth", 3, 2), ("depth", (), 0), ("seams",), ("seams", ()),
    ("seams", (), 0, 0), ("seams", (), -1), ("seams", (), 7), ("seams", (), 10 ** 100), ("seams", ((0, 2, 0),), 0),
    ("seams", ((10, 0, 0),), 0), ("seams", ((0, 0, 3),), 0), ("seams", ((0, 0),), 0), ("seams", (None,), 0),
    ("seams", ((0, 0, 0),) * 8, 0),
    ("seams", [(hand, 0, 0) for hand in range(5)], 0), ("seams", ((True, 0, 0),), 0), ("seams", [None] * 401, 0))


def goals_for(dice, book, many):
    """So many goals for a book."""
    goals = []
    while len(goals) < many:
        word = dice.choice(("had", "depth", "seams"))
        hands, depth = dice.randrange(1, 4), dice.randrange(4)
        if word == "had":
            goals.append(("had",))
        elif word == "depth" and len(full_places(book, hands, depth)) <= 4:
            goals.append(["depth", hands, depth])
        elif word == "seams":
            history = [[dice.randrange(3), dice.randrange(book.calls), dice.choice(book.answers)]
                       for _ in range(dice.randrange(5))]
            goals.append(("seams", history, dice.randrange(7)))
    return goals


def plain_met(wish, goal):
    """Whether a wish meets a goal."""
    if goal[0] == "had":
        return is_had(wish)
    if goal[0] == "depth":
        return full_wish(wish.book, wish.past, goal[1], goal[2]) is not None
    return any(len(seams) <= goal[2] for seams in all_partings(wish.book, goal[1]))


def all_met(wish, goals):
    """The numbers of the goals that a wish meets."""
    return tuple(number for number, goal in enumerate(goals) if plain_met(wish, goal))


def small_wishes(seed, many):
    """Wishes over books of at most three states and two calls."""
    return [wish for wish in drawn_wishes(seed, many) + likely_wishes(seed + 1, many)
            if wish.book.states < 4 and wish.book.calls < 3 and cuts_in(wish.scripts) < 60]


class TestGoals(Case):

    def test_check_goals(self):
        goals = (("had",), ("depth", 1, 2), ("seams", LOOKED, 3), ("had",), ("depth", 3, 0), ("seams", (), 0))
        for form in mixed_forms(goals):
            self.assertSame(check_goals(set_and_look(), form), goals)
            self.assertTuples(check_goals(set_and_look(), form))
        self.assertSame(check_goals(set_and_look(), []), ())

    def test_all_words_at_their_bounds(self):
        book = set_and_look()
        for goal in (("had",), ("depth", 1, 0), ("depth", 2, 0), ("depth", 3, 0), ("depth", 1, 2), ("depth", 3, 1),
                     ("depth", 2, 1),
                     ("seams", SEVEN, 0), ("seams", SEVEN, 6), ("seams", ((9, 1, 2),), 6), ("seams", (), 6)):
            self.assertSame(check_goals(book, [goal]), (goal,))
            self.assertIn(is_met(Wish(book, (), ((),)), goal), (True, False))
        self.assertSame(check_goals(least_book(1, 1), (("depth", 2, 3), ("depth", 3, 2), ("depth", 1, 3))),
                        (("depth", 2, 3), ("depth", 3, 2), ("depth", 1, 3)))
        self.assertSame(check_goals(least_book(1, 4), [("depth", 1, 1)]), (("depth", 1, 1),))
        for wrong, book in ((("depth", 3, 3), least_book(1, 1)), (("depth", 2, 1), least_book(1, 4)),
                            (("depth", 3, 1), least_book(1, 3)),
                            (("depth", 1, 2), least_book(1, 3)), (("depth", 1, 3), least_book(1, 2))):
            self.refuses(BadGoal, {"index": 0}, check_goals, book, [wrong])
            self.refuses(BadGoal, {"index": 0}, is_met, Wish(book, (), ((),)), wrong)

    def test_no_sequence(self):
        for thing in NOT_SEQUENCES + ("had",):
            self.refuses(BadGoal, {"index": 0}, check_goals, set_and_look(), thing)
            self.refuses(BadGoal, {"index": 0}, Bench, toss_wish(), thing)

    def test_20_goals_and_21(self):
        self.assertSame(check_goals(set_and_look(), [["had"]] * 20), (("had",),) * 20)
        for goals in ([("had",)] * 21, [None] * 21, [None] * 500):
            self.refuses(BadGoal, {"index": 20}, check_goals, set_and_look(), goals)
            self.refuses(BadGoal, {"index": 20}, Bench, Wish(set_and_look(), (), ((),)), goals)
        self.refuses(BadGoal, {"index": 19}, check_goals, set_and_look(), [("had",)] * 19 + [None])

    def test_no_goal(self):
        wish = Wish(set_and_look(), (), ((),))
        for thing in NOT_GOALS:
            self.refuses(BadGoal, {"index": 0}, check_goals, set_and_look(), (thing, None))
            self.refuses(BadGoal, {"index": 2}, check_goals, set_and_look(), [("had",), ("depth", 1, 1), thing, None])
            self.refuses(BadGoal, {"index": 1}, Bench, wish, [("had",), thing])
            self.refuses(BadGoal, {"index": 0}, is_met, wish, thing)

    def test_other_numbers(self):
        wish = Wish(set_and_look(), (), ((),))
        for number in NOT_NUMBERS:
            for goal in (("depth", number, 0), ("depth", 1, number), ("seams", (), number), ("seams", ((0, number, 0),), 0),
                         ("seams", ((number, 0, 0),), 0), ("seams", ((0, 0, number),), 0)):
                self.refuses(BadGoal, {"index": 0}, check_goals, set_and_look(), [goal])
                self.refuses(BadGoal, {"index": 0}, is_met, wish, goal)

    def test_goals_may_change_later(self):
        goals = [["had"], ["seams", as_lists(LOOKED), 3]]
        found = check_goals(set_and_look(), goals)
        bench = Bench(Wish(set_and_look(), (), ((),)), goals)
        self.assertSame(goals, [["had"], ["seams", as_lists(LOOKED), 3]])
        goals[1][1][0][0] = 7
        goals[1][2] = 0
        goals.pop()
        for kept in (found, bench.goals):
            self.assertSame(kept, (("had",), ("seams", LOOKED, 3)))


class TestIsMet(Case):

    def test_had(self):
        self.assertIs(is_met(toss_wish(), ("had",)), False)
        self.assertIs(is_met(Wish(toss_and_show().with_way(LOOSE[1]), (), TOSS_SCRIPTS), ["had"]), True)

    def test_depth(self):
        wish = Wish(counter(), (), ((), ()))
        self.assertIs(is_met(wish, ("depth", 2, 1)), False)
        self.assertIs(is_met(wish, ("depth", 2, 0)), True)
        self.assertIs(is_met(wish, ["depth", 1, 3]), True)

    def test_the_past_counts_for_depths(self):
        self.assertIs(is_met(Wish(set_and_look(), (), ((),)), ("depth", 2, 1)), False)
        self.assertIs(is_met(Wish(set_and_look(), ((0, 0, 0),), ((),)), ("depth", 2, 1)), True)

    def test_seams(self):
        wish = Wish(set_and_look(), (), ((),))
        self.assertIs(is_met(wish, ("seams", LOOKED, 0)), False)
        self.assertIs(is_met(wish, ["seams", as_lists(LOOKED), 1]), True)
        self.assertIs(is_met(wish, ("seams", LOOKED, 6)), True)
        self.assertIs(is_met(wish, ("seams", (), 0)), True)
        for most in range(7):
            self.assertIs(is_met(wish, ("seams", ((0, 1, 1),), most)), False)
            turns = tuple((hand % 4, 0, hand % 2) for hand in range(7))
            self.assertIs(is_met(Wish(counter(), (), ((),)), ("seams", turns, most)), most == 6)

    def test_goals_one_by_one(self):
        dice = random.Random(331)
        met = {}
        for wish in small_wishes(331, 110):
            for goal in goals_for(dice, wish.book, 6):
                wanted = plain_met(wish, goal)
                self.assertIs(is_met(wish, goal), wanted)
                self.assertIs(is_met(wish, as_tuples(goal)), wanted)
                met[goal[0], wanted] = met.get((goal[0], wanted), 0) + 1
        self.assertEqual(set(met), set(product(("had", "depth", "seams"), (True, False))))
        self.assertGreater(min(met.values()), 10, met)


class TestBench(Case):

    def bench_is(self, bench, wish, goals, log):
        self.assertEqual(bench.wish, wish)
        self.assertSame((bench.goals, bench.log), (goals, log))
        self.assertTuples((bench.goals, bench.log))
        self.assertSame(bench.goals_met(), all_met(wish, goals))

    def test_a_new_bench(self):
        self.bench_is(Bench(toss_wish()), toss_wish(), (), ())
        self.bench_is(Bench(toss_wish(), []), toss_wish(), (), ())
        self.bench_is(Bench(wish=toss_wish(), goals=[["had"]]), toss_wish(), (("had",),), ())

    def test_example(self):
        bench = Bench(toss_wish(), (("had",),))
        found = bench.trial((LOOSE,))
        after = Wish(toss_and_show().with_way((1, 1, 1, 1)), (), TOSS_SCRIPTS)
        self.assertEqual(found, Trial(after, (0,), (0,), ()))
        self.bench_is(bench, toss_wish(), (("had",),), ())

    def test_do_and_take_back(self):
        goals = (("had",), ("depth", 2, 1), ("seams", ((0, 0, 0), (1, 0, 1)), 0))
        bench = Bench(toss_wish(), goals)
        loose = Wish(toss_and_show().with_way((1, 1, 1, 1)), (), TOSS_SCRIPTS)
        past = Wish(loose.book, ((4, 0, 1),), TOSS_SCRIPTS[1:])
        self.assertIs(bench.do([["way", [1, 1, 1, 1]]]), None)
        self.bench_is(bench, loose, goals, ((LOOSE,),))
        self.assertIs(bench.do(()), None)
        self.bench_is(bench, loose, goals, ((LOOSE,), ()))
        more = (("past", (4, 0, 1)), ("unscript", 0, ()))
        self.assertIs(bench.do(as_lists(more)), None)
        self.bench_is(bench, past, goals, ((LOOSE,), (), more))
        self.assertSame(bench.take_back(), more)
        self.bench_is(bench, loose, goals, ((LOOSE,), ()))
        self.assertSame(bench.take_back(), ())
        self.bench_is(bench, loose, goals, ((LOOSE,),))
        self.assertSame(bench.take_back(), (LOOSE,))
        self.bench_is(bench, toss_wish(), goals, ())
        self.refuses(NothingDone, {}, bench.take_back)
        self.bench_is(bench, toss_wish(), goals, ())

    def test_more_is_taken_back_than_was_done(self):
        bench = Bench(toss_wish())
        self.refuses(NothingDone, {}, bench.take_back)
        bench.do([LOOSE])
        bench.take_back()
        for _ in range(3):
            self.refuses(NothingDone, {}, bench.take_back)
        bench.do([("past", (4, 0, 1))])
        self.bench_is(bench, Wish(toss_and_show(), ((4, 0, 1),), TOSS_SCRIPTS), (), ((("past", (4, 0, 1)),),))

    def test_edits_that_cannot_be_done(self):
        goals = (("had",), ("seams", LOOKED[:1], 0))
        bench = Bench(toss_wish(), goals)
        bench.do([LOOSE])
        present, log = bench.wish, bench.log
        for edits, index, what in ((None, 0, "shape"), ([("unpast",)], 0, "wish"), ([("past", (1, 0, 0)), LOOSE], 1, "book"),
                                   ([("unway", (1, 1, 1, 1)), ("unpast",)], 1, "wish"),
                                   ([("script", 0, (), 0, 1), None], 1, "shape"),
                                   ([None] * 101, 100, "shape")):
            self.refuses(BadEdit, {"index": index, "what": what}, bench.do, edits)
            self.bench_is(bench, present, goals, log)
            self.refuses(BadEdit, {"index": index, "what": what}, bench.trial, edits)
            self.bench_is(bench, present, goals, log)
        self.assertSame(bench.take_back(), (LOOSE,))
        self.bench_is(bench, toss_wish(), goals, ())

    def test_won_and_lost(self):
        goals = (("had",), ("seams", ((0, 0, 0), (1, 0, 1)), 0), ("depth", 1, 1), ("had",))
        bench = Bench(toss_wish(), goals)
        self.assertSame(bench.goals_met(), (2,))
        found = bench.trial([LOOSE])
        self.assertSame((found.met, found.won, found.lost), ((0, 1, 2, 3), (0, 1, 3), ()))
        bench.do([LOOSE])
        found = bench.trial([("unway", (1, 1, 1, 1))])
        self.assertSame((found.met, found.won, found.lost), ((2,), (), (0, 1, 3)))
        found = bench.trial([])
        self.assertEqual(found, Trial(bench.wish, (0, 1, 2, 3), (), ()))
        found = bench.trial([("script", 1, (), 0, 2)])
        self.assertSame((found.met, found.won, found.lost), ((1, 2), (), (0, 3)))

    def test_against_a_bench_of_its_own(self):
        dice = random.Random(332)
        rows, changes = 0, set()
        for wish in small_wishes(333, 25):
            goals = goals_for(dice, wish.book, 4)
            bench, stack = Bench(wish, goals), [(wish, ())]
            goals = as_tuples(goals)
            for _ in range(8):
                row = [drawn_edit(dice, bench.wish) for _ in range(dice.randrange(3))]
                present, log = stack[-1]
                try:
                    after = edited(present, row)
                except BadEdit as error:
                    self.refuses(BadEdit, vars(error), bench.do, row)
                    self.refuses(BadEdit, vars(error), bench.trial, row)
                else:
                    found = bench.trial(row)
                    met, before = all_met(after, goals), all_met(present, goals)
                    self.assertEqual(found, Trial(after, met, tuple(n for n in met if n not in before),
                                                  tuple(n for n in before if n not in met)))
                    self.assertTuples((found.met, found.won, found.lost))
                    changes |= {("won", bool(found.won)), ("lost", bool(found.lost))}
                    self.bench_is(bench, present, goals, log)
                    self.assertIs(bench.do(row), None)
                    stack.append((after, log + (as_tuples(row),)))
                    rows += 1
                if dice.randrange(3) == 0 and len(stack) > 1:
                    self.assertSame(bench.take_back(), stack.pop()[1][-1])
                self.bench_is(bench, stack[-1][0], goals, stack[-1][1])
        self.assertGreater(rows, 100)
        self.assertEqual(len(changes), 4)

    def test_what_is_passed_may_change_later(self):
        wish, edits = toss_wish(), [["way", [1, 1, 1, 1]], ["script", 0, [], 1, 0]]
        bench = Bench(wish, [["had"]])
        bench.do(edits)
        self.assertSame(edits, [["way", [1, 1, 1, 1]], ["script", 0, [], 1, 0]])
        self.assertEqual(wish, toss_wish())
        edits[0][1][0] = 0
        edits[1][2].append(0)
        edits.pop()
        self.assertSame(bench.log, ((LOOSE, ("script", 0, (), 1, 0)),))
        trial = bench.trial([["unway", [1, 1, 1, 1]]])
        bench.take_back()
        self.assertEqual(trial.wish, Wish(toss_and_show(), (), (((0, 0, ()), (1, 0, ())), ((0, 1, ()),))))

    def test_too_many_joints(self):
        """[10.11]: nothing changes."""
        bench = Bench(wide_wish(), [("had",), ("seams", (), 0)])
        log = ((("past", (3, 0, 0)),),)
        self.refuses(TooMany, {"most": 300}, is_met, wide_wish(), ("had",))
        self.refuses(TooMany, {"most": 300}, bench.goals_met)
        bench.do([["unscript", 1, [0]]])
        self.assertSame(bench.goals_met(), (0, 1))
        self.refuses(TooMany, {"most": 300}, bench.trial, [("script", 1, (), 0, 0)])
        self.assertSame(bench.take_back(), (("unscript", 1, (0,)),))
        bench.do(log[0])
        self.refuses(TooMany, {"most": 300}, bench.trial, [("unpast",)])
        self.assertSame((bench.log, bench.wish.past), (log, ((3, 0, 0),)))

    def test_benches_do_not_share(self):
        wish = toss_wish()
        one, other = Bench(wish), Bench(wish)
        one.do([LOOSE])
        self.bench_is(other, wish, (), ())
        self.refuses(NothingDone, {}, other.take_back)

    def test_result(self):
        self.isResult(Trial, "wish", "met", "won", "lost")


class TestWhatIsKept(Case):
    """[10.10]."""

    def samples(self, seed):
        dice = random.Random(seed)
        return [(dice, wish, tuple(map(as_tuples, goals_for(dice, wish.book, 8)))) for wish in small_wishes(seed, 30)]

    def test_a_way_loses_no_goal(self):
        won = 0
        for dice, wish, goals in self.samples(341):
            missing = [way for way in all_ways(wish.book.states, wish.book.calls) if way not in wish.book]
            if missing:
                found = Bench(wish, goals).trial([("way", way) for way in dice.sample(missing, min(2, len(missing)))])
                self.assertSame(found.lost, ())
                won += len(found.won)
        self.assertGreater(won, 5)

    def test_unscript_and_script(self):
        tried = 0
        for dice, wish, goals in self.samples(342):
            bench = Bench(wish, goals)
            before = bench.goals_met()
            for hand, script in enumerate(wish.scripts):
                for turn in turns_of(script):
                    if turn != () or len(wish.scripts) > 1:
                        found = bench.trial([("unscript", hand, turn)])
                        self.assertSame(found.lost, ())
                        self.assertTrue(all(goals[number] == ("had",) for number in found.won))
                        tried += 1
                for call, answer in product(range(wish.book.calls), range(3)):
                    found = bench.trial([("script", hand, (), call, answer)])
                    self.assertTrue(all(goals[number] == ("had",) for number in found.won + found.lost))
            self.assertSame(bench.goals_met(), before)
        self.assertGreater(tried, 100)

    def test_seams_do_not_depend_on_past_and_scripts(self):
        for _, wish, goals in self.samples(343):
            other = Wish(wish.book, (), ((),))
            for goal in goals:
                if goal[0] == "seams":
                    self.assertIs(is_met(other, goal), is_met(wish, goal))

    def test_lesser_goals(self):
        for _, wish, goals in self.samples(344):
            for goal in goals:
                if goal[0] == "depth" and is_met(wish, goal):
                    for hands, depth in product(range(1, goal[1] + 1), range(goal[2] + 1)):
                        self.assertIs(is_met(wish, ("depth", hands, depth)), True)
                if goal[0] == "seams" and is_met(wish, goal):
                    self.assertTrue(all(is_met(wish, ("seams", goal[1], most)) for most in range(goal[2], 7)))

    def test_goals_met_depends_on_the_present_wish_alone(self):
        dice = random.Random(345)
        for _, wish, goals in self.samples(345):
            bench = Bench(wish, goals)
            for _ in range(4):
                try:
                    bench.do([drawn_edit(dice, bench.wish)])
                except BadEdit:
                    pass
            self.assertSame(bench.goals_met(), Bench(bench.wish, goals).goals_met())

    def test_goals_stay_goals(self):
        bench = Bench(deep_wish(), [("depth", 2, 1), ("seams", ((3, 2, 0),), 0)])
        bench.do([("way", (0, 0, 1, 1)), ("unpast",)])
        self.assertSame((bench.wish.book.states, bench.wish.book.calls), (2, 3))
        self.assertSame(check_goals(bench.wish.book, bench.goals), bench.goals)
