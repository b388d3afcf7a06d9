"""[3.1] to [3.6], and of [3.16] what it says of the wish and of alone_fault."""

import random
from itertools import product

from tests.helper import (NOT_NUMBERS, NOT_SEQUENCES, TOSS_SCRIPTS, Case, as_lists, drawn_script, drawn_wishes, full_book,
                          full_script, least_book, mixed_forms, set_and_look, toss_and_show, walk_ends)
from unmetcells.errors import BadDepth, BadPast, BadScripts, NoTurn, TooMany
from unmetcells.scripts import (Wish, alone_fault, check_scripts, cut_down, cut_script, entries_of, script_behind,
                                script_depth, turns_of, without_hand)

SCRIPT = ((0, 0, ((0, 1, ()), (1, 2, ((1, 0, ()),)))), (1, 1, ()))
SCRIPTS = (SCRIPT, (), ((1, 0, ((0, 0, ()),)),))
SCRIPT_TURNS = ((), (0,), (0, 0), (0, 1), (0, 1, 1), (1,))

NOT_TURNS = NOT_SEQUENCES + ((2,), (0, 2), (0, 0, 0), (1, 0), (0, 1, 1, 1), (-1,), ((0,),), (None,), ("0",), (True,),
                             (False,), (0, True), (0.0,), (1.0,), ([],))


class TestCheckScripts(Case):

    def refused(self, hand, what, scripts, book=None):
        self.refuses(BadScripts, {"hand": hand, "what": what}, check_scripts, book or toss_and_show(), scripts)

    def test_it_is_returned_as_tuples(self):
        for scripts in mixed_forms(SCRIPTS):
            found = check_scripts(toss_and_show(), scripts)
            self.assertSame(found, SCRIPTS)
            self.assertTuples(found)

    def test_1_to_3_scripts(self):
        for many in (1, 2, 3):
            self.assertSame(check_scripts(toss_and_show(), [[]] * many), ((),) * many)
            self.assertSame(check_scripts(toss_and_show(), (SCRIPT,) * many), (SCRIPT,) * many)
        for scripts in ((), [], [[]] * 4, (SCRIPT,) * 4, [None] * 4):
            self.refused(None, "many", scripts)

    def test_no_sequence_of_scripts(self):
        for thing in NOT_SEQUENCES + ({0: SCRIPT}, iter(SCRIPTS)):
            self.refused(None, "many", thing)

    def test_full_scripts(self):
        for calls in (1, 4):
            script = full_script(calls, 3)
            self.assertSame(check_scripts(full_book(1, calls), as_lists((script, script))), (script, script))

    def test_answer_that_no_way_bears(self):
        self.assertSame(check_scripts(least_book(1, 1), (((0, 2, ()),),)), (((0, 2, ()),),))

    def test_shape_of_scripts(self):
        for thing in NOT_SEQUENCES:
            self.refused(0, "shape", (thing,))
            self.refused(2, "shape", (SCRIPT, (), thing))
            self.refused(1, "shape", (SCRIPT, ((0, 0, thing),)))
            self.refused(1, "shape", (SCRIPT, ((0, 0, ((0, 0, ((0, 0, thing),)),)),)))

    def test_shape_of_rows(self):
        for row in NOT_SEQUENCES + ((), (0,), (0, 0), (0, 0, (), ()), ((0, 0, ()),), "000", {0: 0, 1: 0, 2: ()}):
            self.refused(0, "shape", ((row,),))
            self.refused(1, "shape", (SCRIPT, ((0, 0, ()), row)))
            self.refused(1, "shape", (SCRIPT, ((0, 0, ((0, 0, ((0, 0, (row,)),)),)),)))

    def test_depth(self):
        deep = full_script(1, 4)
        self.refused(0, "depth", (deep,))
        self.refused(1, "depth", [SCRIPT, as_lists(deep)])
        self.refused(0, "depth", (full_script(1, 7),))
        self.refused(0, "depth", (((0, 0, ((0, 0, ((0, 0, ((9, 9, None),)),)),)),),))

    def test_call(self):
        for thing in NOT_NUMBERS + (2, -1, 10 ** 100):
            self.refused(0, "call", (((thing, 0, ()),),))
            self.refused(1, "call", (SCRIPT, ((0, 0, ((0, 0, ()), (thing, 9, None))),)))

    def test_calls_ascend(self):
        for rows in (((0, 0, ()), (0, 0, ())), ((1, 0, ()), (0, 0, ())), ((1, 0, ()), (1, 1, ()))):
            self.refused(0, "call", (rows,))
            self.refused(1, "call", ((), ((1, 0, rows),)))
        self.assertSame(check_scripts(full_book(1, 4), (((1, 0, ()), (3, 0, ())),)), (((1, 0, ()), (3, 0, ())),))

    def test_answer(self):
        for thing in NOT_NUMBERS + (3, -1, 10 ** 100):
            self.refused(0, "answer", (((0, thing, None),),))
            self.refused(1, "answer", (SCRIPT, ((0, 0, ((0, 0, ()), (1, thing, 5))),)))

    def test_words_of_one_row(self):
        three = ((0, 0, ((0, 0, ((0, 0, "row"),)),)),)
        for row, what in (((9, 9), "shape"), ((9, 9, None), "depth")):
            self.refused(0, what, (replaced(three, (row,)),))
        self.refused(0, "call", (((9, 9, None),),))
        self.refused(0, "answer", (((0, 9, None),),))
        self.refused(0, "shape", (((0, 0, None),),))

    def test_first_fault(self):
        self.refused(0, "answer", (((0, 3, ()),), None))
        self.refused(0, "shape", (((0, 0, (None,)), (5, 0, ())), ((0, 3, ()),)))
        self.refused(0, "call", (((0, 0, ()), (5, 0, None), None),))
        self.refused(0, "answer", (((0, 0, ((0, 3, None),)), None),))
        self.refused(1, "call", ((), ((5, 0, ()),), None))

    def test_what_is_passed_stays_and_may_change_later(self):
        scripts = as_lists(SCRIPTS)
        found = check_scripts(toss_and_show(), scripts)
        self.assertSame(scripts, as_lists(SCRIPTS))
        scripts[0][0][2].append(7)
        scripts[0][1][1] = 2
        scripts.append(None)
        self.assertSame(found, SCRIPTS)


def replaced(thing, script):
    """The scripts with this script in the place of "row"."""
    if thing == "row":
        return script
    if isinstance(thing, tuple):
        return tuple(replaced(item, script) for item in thing)
    return thing


class TestTurns(Case):

    def test_turns_of(self):
        self.assertSame(turns_of(SCRIPT), SCRIPT_TURNS)
        self.assertSame(turns_of(()), ((),))
        self.assertEqual(len(turns_of(full_script(4, 3))), 85)

    def test_turns_ascend_and_are_all(self):
        dice = random.Random(70)
        for _ in range(30):
            script = drawn_script(dice, full_book(1, 3), 3)
            wanted = [turn for length in range(5) for turn in product(range(4), repeat=length)
                      if plain_behind(script, turn) is not None]
            self.assertSame(turns_of(script), tuple(sorted(wanted)))
            for length in range(5):
                for turn in product(range(4), repeat=length):
                    self.assertSame(script_behind(script, turn), plain_behind(script, turn))
                    self.assertSame(script_behind(script, list(turn)), plain_behind(script, turn))

    def test_script_behind(self):
        self.assertSame(script_behind(SCRIPT, ()), SCRIPT)
        self.assertSame(script_behind(SCRIPT, []), SCRIPT)
        self.assertSame(script_behind(SCRIPT, (0,)), SCRIPT[0][2])
        self.assertSame(script_behind(SCRIPT, (0, 1)), ((1, 0, ()),))
        self.assertSame(script_behind(SCRIPT, (0, 1, 1)), ())
        self.assertSame(script_behind((), ()), ())
        self.assertIs(script_behind((), (0,)), None)

    def test_no_turns(self):
        for turn in NOT_TURNS:
            if isinstance(turn, (list, tuple)):
                self.assertIs(script_behind(SCRIPT, turn), None)

    def test_script_depth(self):
        self.assertSame([script_depth(script) for script in SCRIPTS], [3, 0, 2])
        self.assertSame([script_depth(full_script(2, depth)) for depth in range(4)], [0, 1, 2, 3])
        self.assertSame(script_depth(((0, 0, ()), (1, 0, ((0, 0, ()),)))), 2)

    def test_cut_script(self):
        self.assertSame(cut_script(SCRIPT, 0), ())
        self.assertSame(cut_script(SCRIPT, 1), ((0, 0, ()), (1, 1, ())))
        self.assertSame(cut_script(SCRIPT, 2), ((0, 0, ((0, 1, ()), (1, 2, ()))), (1, 1, ())))
        self.assertSame(cut_script(SCRIPT, 3), SCRIPT)
        for depth in range(4):
            self.assertSame(cut_script((), depth), ())
            self.assertSame(cut_script(full_script(4, 3), depth), full_script(4, depth))

    def test_bad_depth(self):
        for depth in NOT_NUMBERS + (-1, 4, 10 ** 100):
            self.refuses(BadDepth, {}, cut_script, SCRIPT, depth)
            self.refuses(BadDepth, {}, cut_script, (), depth)


def plain_behind(script, turn):
    """The script behind a turn, row by row, or None."""
    if turn == ():
        return script
    for call, _, behind in script:
        if call == turn[0]:
            return plain_behind(behind, turn[1:])
    return None


class TestWish(Case):

    PAST = ((0, 0, 0), (5, 0, 1), (0, 1, 1))

    def test_attributes(self):
        for past in mixed_forms(self.PAST):
            for scripts in mixed_forms(SCRIPTS):
                wish = Wish(toss_and_show(), past, scripts)
                self.assertEqual(wish.book, toss_and_show())
                self.assertSame((wish.past, wish.scripts), (self.PAST, SCRIPTS))
                self.assertTuples((wish.past, wish.scripts))

    def test_by_name(self):
        wish = Wish(book=toss_and_show(), past=(), scripts=TOSS_SCRIPTS)
        self.assertEqual(wish, Wish(toss_and_show(), [], as_lists(TOSS_SCRIPTS)))

    def test_example(self):
        wish = Wish(toss_and_show(), (), TOSS_SCRIPTS)
        self.assertSame((wish.past, wish.scripts), ((), TOSS_SCRIPTS))
        self.assertSame([turns_of(script) for script in wish.scripts], [((), (0,)), ((), (0,))])
        self.assertIs(alone_fault(wish), None)

    def test_6_and_7_entries(self):
        for entries in (0, 1, 6):
            self.assertSame(Wish(toss_and_show(), [[3, 0, 0]] * entries, ((),)).past, ((3, 0, 0),) * entries)
        for past in ([[3, 0, 0]] * 7, ((3, 0, 0),) * 400, [None] * 7):
            self.refuses(BadPast, {}, Wish, toss_and_show(), past, ((),))

    def test_bad_past(self):
        for past in NOT_SEQUENCES + (((0, 0, 2),), ((0, 0, 0), (0, 1, 1)), ((0, 2, 0),), ((10, 0, 0),), ((0, 0),), (None,),
                                     ((True, 0, 0),), ((0, False, 0),), ((0, 0, 1.0),), ((0, 0, 0),) * 401):
            self.refuses(BadPast, {}, Wish, toss_and_show(), past, TOSS_SCRIPTS)

    def test_past_comes_before_scripts(self):
        self.refuses(BadPast, {}, Wish, toss_and_show(), ((0, 0, 2),), None)

    def test_bad_scripts(self):
        for hand, what, scripts in ((None, "many", ()), (None, "many", ((),) * 4), (1, "shape", ((), None)),
                                    (0, "depth", (full_script(1, 4),)), (0, "call", (((2, 0, ()),),)),
                                    (2, "answer", ((), (), ((0, 3, ()),)))):
            self.refuses(BadScripts, {"hand": hand, "what": what}, Wish, toss_and_show(), (), scripts)

    def test_scripts_come_before_too_many(self):
        self.refuses(BadScripts, {"hand": 2, "what": "shape"}, Wish, full_book(1, 4), (),
                     (full_script(4, 3), full_script(4, 3), None))

    def test_200_cuts_and_more(self):
        book = full_book(1, 4)
        five = full_script(4, 1)
        eight = ((0, 0, full_script(3, 1)),) + five[1:]
        self.assertEqual([len(turns_of(script)) for script in (five, eight)], [5, 8])
        self.assertSame(Wish(book, (), (five, five, eight)).scripts, (five, five, eight))
        three = full_script(2, 1)
        many = tuple((call, 0, full_script(4, 2)) for call in range(3)) + ((3, 0, three),)
        self.assertEqual([len(turns_of(script)) for script in (three, many)], [3, 67])
        self.refuses(TooMany, {"most": 200}, Wish, book, (), (many, three))
        self.refuses(TooMany, {"most": 200}, Wish, book, (), (full_script(4, 3),) * 3)
        self.assertSame(Wish(book, (), (many, full_script(1, 1))).scripts, (many, full_script(1, 1)))

    def test_equality(self):
        wish = Wish(toss_and_show(), self.PAST, SCRIPTS)
        twin = Wish(toss_and_show(), as_lists(self.PAST), as_lists(SCRIPTS))
        self.assertIs(wish == twin, True)
        self.assertIs(wish != twin, False)
        others = (Wish(toss_and_show().with_way((1, 1, 1, 1)), self.PAST, SCRIPTS),
                  Wish(toss_and_show(), self.PAST[:2], SCRIPTS), Wish(toss_and_show(), self.PAST, SCRIPTS[:2]),
                  Wish(toss_and_show(), self.PAST, SCRIPTS[::-1]))
        for thing in others + NOT_SEQUENCES + (toss_and_show(), (wish.book, wish.past, wish.scripts), Wish):
            self.assertIs(wish == thing, False)
            self.assertIs(wish != thing, True)
            self.assertIs(thing == wish, False)

    def test_what_is_passed_stays_and_may_change_later(self):
        book, past, scripts = toss_and_show(), as_lists(self.PAST), as_lists(SCRIPTS)
        wish = Wish(book, past, scripts)
        self.assertEqual(book, toss_and_show())
        self.assertSame((past, scripts), (as_lists(self.PAST), as_lists(SCRIPTS)))
        past[0][2] = 1
        past.append(3)
        scripts[0][0][2][0][1] = 2
        del scripts[1:]
        self.assertEqual(wish, Wish(toss_and_show(), self.PAST, SCRIPTS))


class TestEntries(Case):

    def setUp(self):
        self.wish = Wish(toss_and_show(), ((0, 0, 0),), SCRIPTS)

    def test_entries_of(self):
        for turn, wanted in (((), ()), ((0,), ((0, 0, 0),)), ((0, 1), ((0, 0, 0), (0, 1, 2))),
                             ((0, 1, 1), ((0, 0, 0), (0, 1, 2), (0, 1, 0))), ((1,), ((0, 1, 1),))):
            self.assertSame(entries_of(self.wish, 0, turn), wanted)
            self.assertSame(entries_of(self.wish, 0, list(turn)), wanted)
        self.assertSame(entries_of(self.wish, 1, ()), ())
        self.assertSame(entries_of(self.wish, 2, (1, 0)), ((2, 1, 0), (2, 0, 0)))

    def test_no_turn(self):
        for turn in NOT_TURNS:
            self.refuses(NoTurn, {"hand": 0}, entries_of, self.wish, 0, turn)
        self.refuses(NoTurn, {"hand": 1}, entries_of, self.wish, 1, (0,))
        self.refuses(NoTurn, {"hand": 2}, entries_of, self.wish, 2, (0,))

    def test_no_scripted_hand(self):
        for hand in NOT_NUMBERS + (-1, 3, 9, 10 ** 100):
            for turn in ((), None):
                self.refuses(NoTurn, {"hand": hand}, entries_of, self.wish, hand, turn)


class TestAloneFault(Case):

    def test_samples(self):
        book = set_and_look()
        self.assertIs(alone_fault(Wish(book, (), ((), ()))), None)
        self.assertIs(alone_fault(Wish(book, (), (((0, 0, ((1, 1, ()),)),), ((1, 0, ()),)))), None)
        self.assertSame(alone_fault(Wish(book, (), (((0, 0, ()),), ((1, 1, ()),)))), (1, (1,)))
        self.assertIs(alone_fault(Wish(book, ((0, 0, 0),), (((0, 0, ()),), ((1, 1, ()),)))), None)

    def test_fewest_calls_come_before_the_least_turn(self):
        script = ((0, 0, ((1, 0, ()),)), (1, 1, ((0, 0, ()),)))
        self.assertSame(alone_fault(Wish(set_and_look(), (), (script,))), (0, (1,)))

    def test_the_least_hand_comes_before_fewer_calls(self):
        scripts = ((), ((0, 0, ((1, 0, ()),)),), ((1, 1, ()),))
        self.assertSame(alone_fault(Wish(set_and_look(), (), scripts)), (1, (0, 1)))

    def test_answer_that_no_way_bears(self):
        self.assertSame(alone_fault(Wish(least_book(1, 1), (), (((0, 2, ()),),))), (0, (0,)))

    def test_against_a_plain_search(self):
        found = []
        for wish in drawn_wishes(71, 150):
            wrong = []
            for hand, script in enumerate(wish.scripts):
                for turn in turns_of(script):
                    heard = [entry[1:] for entry in wish.past + entries_of(wish, hand, turn)]
                    if not walk_ends(wish.book, (0,), heard):
                        wrong.append((hand, len(turn), turn))
            found.append(min(wrong)[::2] if wrong else None)
            self.assertSame(alone_fault(wish), found[-1])
        self.assertIn(None, found)
        self.assertGreater(len(set(found)), 5)


class TestLess(Case):

    def test_cut_down(self):
        wish = Wish(toss_and_show(), ((0, 0, 0),), SCRIPTS)
        for depth in range(4):
            wanted = Wish(toss_and_show(), ((0, 0, 0),), [cut_script(script, depth) for script in SCRIPTS])
            self.assertEqual(cut_down(wish, depth), wanted)
        self.assertSame(cut_down(wish, 0).scripts, ((), (), ()))
        self.assertEqual(cut_down(wish, 3), wish)
        self.assertEqual(wish, Wish(toss_and_show(), ((0, 0, 0),), SCRIPTS))

    def test_cut_down_to_a_bad_depth(self):
        wish = Wish(toss_and_show(), (), SCRIPTS)
        for depth in NOT_NUMBERS + (-1, 4, 10 ** 100):
            self.refuses(BadDepth, {}, cut_down, wish, depth)

    def test_without_hand(self):
        wish = Wish(toss_and_show(), ((2, 0, 0),), SCRIPTS)
        for hand in range(3):
            wanted = Wish(toss_and_show(), ((2, 0, 0),), SCRIPTS[:hand] + SCRIPTS[hand + 1:])
            self.assertEqual(without_hand(wish, hand), wanted)
        self.assertEqual(wish, Wish(toss_and_show(), ((2, 0, 0),), SCRIPTS))
        self.assertSame(entries_of(without_hand(wish, 0), 1, (1,)), ((1, 1, 0),))

    def test_no_scripted_hand(self):
        for many in (1, 2, 3):
            wish = Wish(toss_and_show(), (), SCRIPTS[:many])
            for hand in NOT_NUMBERS + (-1, many, 10 ** 100):
                self.refuses(NoTurn, {"hand": hand}, without_hand, wish, hand)

    def test_the_only_hand(self):
        wish = Wish(toss_and_show(), (), (SCRIPT,))
        self.refuses(BadScripts, {"hand": None, "what": "many"}, without_hand, wish, 0)

    def test_results_are_tuples(self):
        wish = Wish(toss_and_show(), [[0, 0, 0]], as_lists(SCRIPTS))
        for less in (cut_down(wish, 2), without_hand(wish, 1)):
            self.assertTuples((less.past, less.scripts, less.book.ways))
