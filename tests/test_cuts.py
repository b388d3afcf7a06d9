"""[3.7] to [3.9], and of [3.16] what it says of cuts."""

from itertools import product
from math import factorial

from tests.helper import (NOT_NUMBERS, NOT_SEQUENCES, TOSS_SCRIPTS, Case, as_lists, drawn_wishes, full_book, full_script,
                          mixed_forms, plain_entries, toss_and_show, weavings_of)
from unmetcells.cuts import check_cut, cut_size, cut_with, cuts_of, heads_at, weaving_count, weavings_at
from unmetcells.errors import NoTurn, TooMany
from unmetcells.joints import joint_at, standings_at
from unmetcells.scripts import Wish, script_behind, turns_of

SCRIPT = ((0, 0, ((0, 1, ()), (1, 2, ((1, 0, ()),)))), (1, 1, ()))
SCRIPTS = (SCRIPT, (), ((1, 0, ((0, 0, ()),)),))

# A script with one turn of each length up to 3.
LINE = full_script(1, 3)

# All functions that check a wish and a cut.
ASK_AT_CUTS = (check_cut, heads_at, weavings_at, joint_at, standings_at)

# Things that are no turn of SCRIPT.
NOT_TURNS = NOT_SEQUENCES + ((2,), (0, 2), (0, 0, 0), (1, 0), (0, 1, 1, 1), (-1,), ((0,),), (None,), ("0",), (True,), (False,),
                             (0, True), (0, 1.0), (0.0,), ([],), (10 ** 100,))


def sample():
    return Wish(toss_and_show(), ((0, 0, 0),), SCRIPTS)


def lines(*lengths):
    """A wish each hand of which may go one way alone, and the cut at which it has gone so far."""
    return Wish(full_book(1, 1), (), (LINE,) * len(lengths)), tuple((0,) * length for length in lengths)


class TestSizes(Case):

    def test_cut_size(self):
        for cut, size in ((((),), 0), (((), (), ()), 0), (((0, 1, 1), (), (1, 0)), 5), (((0,), (0, 0)), 3)):
            for form in mixed_forms(cut):
                self.assertSame(cut_size(form), size)


class TestCutsOf(Case):

    def test_example(self):
        wish = Wish(toss_and_show(), (), TOSS_SCRIPTS)
        self.assertSame(cuts_of(wish), (((), ()), ((), (0,)), ((0,), ()), ((0,), (0,))))

    def test_bare_scripts(self):
        for hands in (1, 2, 3):
            self.assertSame(cuts_of(Wish(toss_and_show(), (), ((),) * hands)), (((),) * hands,))

    def test_order_of_cuts(self):
        self.assertSame(cuts_of(sample())[:8], (
            ((), (), ()),
            ((), (), (1,)), ((0,), (), ()), ((1,), (), ()),
            ((), (), (1, 0)), ((0,), (), (1,)), ((0, 0), (), ()), ((0, 1), (), ())))
        self.assertSame(cuts_of(sample())[-1], ((0, 1, 1), (), (1, 0)))

    def test_against_all_rows_of_turns(self):
        for wish in drawn_wishes(81, 60):
            found = cuts_of(wish)
            wanted = {size: [] for size in range(10)}
            for cut in sorted(product(*[turns_of(script) for script in wish.scripts])):
                wanted[sum(len(turn) for turn in cut)].append(cut)
            self.assertSame(found, tuple(cut for size in range(10) for cut in wanted[size]))
            self.assertTuples(found)

    def test_200_cuts(self):
        four = full_script(4, 1)
        eight = ((0, 0, full_script(3, 1)),) + four[1:]
        cuts = cuts_of(Wish(full_book(1, 4), (), (four, eight, four)))
        self.assertEqual((len(cuts), len(set(cuts))), (200, 200))


class TestCheckCut(Case):

    def test_it_is_returned_as_tuples(self):
        for cut in cuts_of(sample()):
            for form in mixed_forms(cut):
                self.assertSame(check_cut(sample(), form), cut)

    def test_no_sequence(self):
        for ask in ASK_AT_CUTS:
            for thing in NOT_SEQUENCES + ({0: (), 1: (), 2: ()}, iter(((), (), ()))):
                self.refuses(NoTurn, {"hand": 0}, ask, sample(), thing)

    def test_no_turn(self):
        for ask in ASK_AT_CUTS:
            for thing in NOT_TURNS:
                self.refuses(NoTurn, {"hand": 0}, ask, sample(), (thing, None, None))
                if thing != (1, 0):
                    self.refuses(NoTurn, {"hand": 2}, ask, sample(), [(0, 1), (), thing, None])
            for thing in NOT_TURNS + ((0,), (1,)):
                self.refuses(NoTurn, {"hand": 1}, ask, sample(), [(0, 1), thing, None])
            for thing in NOT_NUMBERS:
                self.refuses(NoTurn, {"hand": 2}, ask, sample(), ((), (), (thing,)))

    def test_too_short_and_too_long(self):
        for ask in ASK_AT_CUTS:
            for length in range(3):
                self.refuses(NoTurn, {"hand": length}, ask, sample(), [[]] * length)
            for more in ([()], [None], [(0,), ()], [()] * 400):
                self.refuses(NoTurn, {"hand": 3}, ask, sample(), [(0,), (), (1,)] + more)

    def test_what_is_passed_stays_and_may_change_later(self):
        cut = [[0, 1], [], [1]]
        checked = check_cut(sample(), cut)
        for ask in ASK_AT_CUTS:
            ask(sample(), cut)
        self.assertSame(cut, [[0, 1], [], [1]])
        cut[0].append(1)
        del cut[1:]
        self.assertSame(checked, ((0, 1), (), (1,)))


class TestHeads(Case):

    def test_samples(self):
        for cut, heads in ((((), (), ()), ((0, 0, 0), (0, 1, 1), (2, 1, 0))),
                           (((0,), (), (1,)), ((0, 0, 1), (0, 1, 2), (2, 0, 0))),
                           (((0, 1), (), (1, 0)), ((0, 1, 0),)), (((1,), (), (1, 0)), ())):
            for form in mixed_forms(cut):
                self.assertSame(heads_at(sample(), form), heads)

    def test_against_rows_and_ascending(self):
        for wish in drawn_wishes(82, 60):
            for cut in cuts_of(wish):
                wanted = [(hand,) + row[:2] for hand, turn in enumerate(cut)
                          for row in script_behind(wish.scripts[hand], turn)]
                self.assertSame(heads_at(wish, cut), tuple(sorted(wanted)))


class TestCutWith(Case):

    def test_forms(self):
        for form in mixed_forms(((0,), (), (1, 0))):
            self.assertSame(cut_with(form, 0, 2), ((0, 2), (), (1, 0)))
            self.assertSame(cut_with(form, 1, 0), ((0,), (0,), (1, 0)))
            self.assertSame(cut_with(form, 2, 3), ((0,), (), (1, 0, 3)))

    def test_nothing_is_checked(self):
        self.assertSame(cut_with(((),), 0, 77), ((77,),))
        self.assertSame(cut_with([[5, 6, 7, 8]], 0, 9), ((5, 6, 7, 8, 9),))

    def test_what_is_passed_stays(self):
        cut = [[0], []]
        cut_with(cut, 1, 0)
        self.assertSame(cut, [[0], []])

    def test_all_cuts_come_from_the_bare_one_by_heads(self):
        for wish in drawn_wishes(83, 60):
            bare = ((),) * len(wish.scripts)
            reached = {bare}
            for cut in cuts_of(wish):
                self.assertIn(cut, reached)
                for hand, call, _ in heads_at(wish, cut):
                    reached.add(cut_with(cut, hand, call))
            self.assertEqual(reached, set(cuts_of(wish)))


class TestWeavings(Case):

    def test_counts(self):
        for lengths in product(range(4), repeat=3):
            wanted = factorial(sum(lengths))
            for length in lengths:
                wanted //= factorial(length)
            for form in mixed_forms(tuple((0,) * length for length in lengths)):
                self.assertSame(weaving_count(form), wanted)

    def test_counts_are_not_checked(self):
        self.assertSame(weaving_count(((9, 9, 9, 9, 9), ("a",))), 6)
        self.assertSame(weaving_count(((0, 1, 0, 1),)), 1)
        self.assertSame(weaving_count([[]]), 1)
        self.assertSame(weaving_count(((),) * 7 + ((5,),) * 4), 24)

    def test_bare_cut(self):
        for hands in (1, 2, 3):
            wish = Wish(toss_and_show(), ((0, 0, 1),), TOSS_SCRIPTS[:1] * hands)
            self.assertSame(weavings_at(wish, ((),) * hands), ((),))

    def test_example(self):
        wish = Wish(toss_and_show(), (), TOSS_SCRIPTS)
        for form in mixed_forms(((0,), (0,))):
            self.assertSame(weavings_at(wish, form), (((0, 0, 0), (1, 0, 1)), ((1, 0, 1), (0, 0, 0))))

    def test_against_all_orders(self):
        for wish in drawn_wishes(84, 50) + [sample()]:
            for cut in cuts_of(wish):
                found = weavings_at(wish, cut)
                self.assertSame(found, weavings_of(wish, cut))
                self.assertEqual(len(found), weaving_count(cut))
                self.assertTuples(found)

    def test_each_weaving_has_the_entries_in_their_order(self):
        wish = sample()
        cut = ((0, 1, 1), (), (1, 0))
        for weaving in weavings_at(wish, cut):
            for hand, turn in enumerate(cut):
                part = tuple(entry for entry in weaving if entry[0] == hand)
                self.assertSame(part, plain_entries(wish.scripts[hand], hand, turn))

    def test_at_most_200(self):
        for lengths in product(range(4), repeat=3):
            wish, cut = lines(*lengths)
            many = weaving_count(cut)
            if many > 200:
                self.refuses(TooMany, {"most": 200}, weavings_at, wish, cut)
                self.refuses(TooMany, {"most": 200}, weavings_at, wish, as_lists(cut))
            else:
                found = weavings_at(wish, cut)
                self.assertEqual((len(found), len(set(found))), (many, many))
                self.assertEqual(list(found), sorted(found))
        self.assertEqual(weaving_count(lines(3, 3, 1)[1]), 140)
        self.assertEqual(weaving_count(lines(3, 2, 2)[1]), 210)

    def test_no_turn_comes_before_too_many(self):
        wish, cut = lines(3, 3, 3)
        self.refuses(NoTurn, {"hand": 2}, weavings_at, wish, cut[:2] + ((0, 0, 0, 0),))
        self.refuses(NoTurn, {"hand": 3}, weavings_at, wish, cut + ((),))
