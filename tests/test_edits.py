"""[10.6] and [10.7]."""

import random
from itertools import product

from tests.helper import (NOT_NUMBERS, NOT_SEQUENCES, TOSS_SCRIPTS, Case, all_ways, as_lists, as_tuples, cuts_in, drawn_wishes,
                          full_script, least_book, likely_wishes, mixed_forms, set_and_look, toss_and_show, walk_ends)
from tests.test_loosen import NOT_WAYS, toss_wish
from unmetcells.books import Book
from unmetcells.edits import edited
from unmetcells.errors import BadEdit
from unmetcells.scripts import Wish

NOT_HANDS = NOT_NUMBERS + (-1, 4, 10 ** 100)


def deep_wish():
    """A wish with scripts of several depths."""
    return Wish(least_book(2, 3), ((9, 0, 0),), (((0, 0, ((1, 1, ((2, 2, ()),)),)), (2, 0, ())), ((1, 0, ((1, 0, ()),)),)))


def table_of(scripts):
    """For each hand a dict from each turn other than () to the answer of its last row."""
    def rows(script, turn):
        for call, answer, behind in script:
            yield turn + (call,), answer
            yield from rows(behind, turn + (call,))

    return [dict(rows(script, ())) for script in scripts]


def script_of(table, turn=()):
    """The script behind a turn that a dict from turns to answers tells."""
    return tuple((longer[-1], table[longer], script_of(table, longer)) for longer in sorted(table)
                 if len(longer) == len(turn) + 1 and longer[:-1] == turn)


def plain_edited(states, calls, told, edit):
    """What an edit makes of (ways, past, tables), or the word why it cannot be done; for edits of the right shape."""
    ways, past, tables = told
    word = edit[0]
    if word == "way":
        way = as_tuples(edit[1])
        if way not in all_ways(states, calls) or way in ways:
            return "book"
        return ways | {way}, past, tables
    if word == "unway":
        way = as_tuples(edit[1])
        if way not in ways or len([other for other in ways if other[:2] == way[:2]]) == 1:
            return "book"
        ways = ways - {way}
        return (ways, past, tables) if ends_of(states, calls, ways, past) else "wish"
    if word == "past":
        entry = as_tuples(edit[1])
        if entry not in set(product(range(10), range(calls), range(3))) or len(past) == 6:
            return "wish"
        past = past + (entry,)
        return (ways, past, tables) if ends_of(states, calls, ways, past) else "wish"
    if word == "unpast":
        return (ways, past[:-1], tables) if past else "wish"
    hand, turn = edit[1], as_tuples(edit[2])
    if word == "script":
        tables = [dict(table) for table in tables]
        if hand == len(tables) and hand < 3 and turn == ():
            tables.append({})
        if hand not in range(len(tables)) or turn != () and turn not in tables[hand] or len(turn) == 3:
            return "wish"
        if edit[3] not in range(calls) or edit[4] not in range(3):
            return "wish"
        tables[hand][turn + (edit[3],)] = edit[4]
        many = 1
        for table in tables:
            many *= len(table) + 1
        return (ways, past, tables) if many <= 200 else "wish"
    if hand not in range(len(tables)) or turn != () and turn not in tables[hand] or turn == () and len(tables) == 1:
        return "wish"
    if turn == ():
        return ways, past, tables[:hand] + tables[hand + 1:]
    kept = {other: answer for other, answer in tables[hand].items() if other[:len(turn)] != turn}
    return ways, past, tables[:hand] + [kept] + tables[hand + 1:]


def ends_of(states, calls, ways, past):
    """The ends of the walks along a past."""
    return walk_ends(Book(states, calls, sorted(ways)), (0,), [entry[1:] for entry in past])


def drawn_edit(dice, wish):
    """An edit of a wish that can often be done."""
    word = dice.choice(("way", "unway", "past", "unpast", "script", "script", "script", "unscript"))
    book = wish.book
    ways = [dice.choice(book.ways), dice.choice(all_ways(book.states, book.calls)), (0, 0, 0, book.states)]
    if word in ("way", "unway"):
        return [word, dice.choice(ways)]
    if word == "past":
        return (word, [dice.randrange(11), dice.randrange(book.calls), dice.randrange(3)])
    if word == "unpast":
        return (word,)
    hand = dice.randrange(len(wish.scripts) + 1)
    turns = [()] + (list(table_of(wish.scripts)[hand]) if hand < len(wish.scripts) else [])
    turn = dice.choice(turns) if dice.randrange(8) else (dice.randrange(2), 0)
    if word == "script":
        return [word, hand, list(turn), dice.randrange(book.calls + (dice.randrange(9) == 0)), dice.randrange(3)]
    return (word, hand, turn)


class TestSamples(Case):

    def edit(self, wish, edits, past, scripts, book=None):
        wanted = Wish(book or wish.book, past, scripts)
        before = Wish(wish.book, wish.past, wish.scripts)
        for form in mixed_forms(edits):
            found = edited(wish, form)
            self.assertEqual(found, wanted)
            self.assertSame((found.past, found.scripts), (wanted.past, wanted.scripts))
            self.assertTuples((found.past, found.scripts, found.book.ways))
            self.assertEqual(wish, before)

    def test_no_edits(self):
        for wish in drawn_wishes(321, 20):
            self.edit(wish, (), wish.past, wish.scripts)
            self.assertIsNot(edited(wish, []), wish)

    def test_way_and_unway(self):
        wish = toss_wish()
        self.edit(wish, (("way", (1, 1, 1, 1)),), (), TOSS_SCRIPTS, toss_and_show().with_way((1, 1, 1, 1)))
        self.edit(wish, (("unway", (0, 0, 1, 2)),), (), TOSS_SCRIPTS, toss_and_show().without_way((0, 0, 1, 2)))
        self.edit(wish, (("way", (1, 1, 1, 1)), ("unway", (1, 1, 1, 1))), (), TOSS_SCRIPTS)
        self.edit(wish, (("way", (1, 1, 1, 1)), ("unway", (1, 1, 0, 1)), ("way", (1, 1, 0, 1)), ("unway", (1, 1, 1, 1))), (),
                  TOSS_SCRIPTS)

    def test_past_and_unpast(self):
        wish = toss_wish()
        self.edit(wish, (("past", (9, 0, 1)), ("past", (0, 1, 1))), ((9, 0, 1), (0, 1, 1)), TOSS_SCRIPTS)
        self.edit(wish, (("past", (9, 0, 1)), ("unpast",)), (), TOSS_SCRIPTS)
        self.edit(deep_wish(), (("unpast",),), (), deep_wish().scripts)
        self.edit(deep_wish(), (("past", (1, 1, 0)),) * 5, ((9, 0, 0),) + ((1, 1, 0),) * 5, deep_wish().scripts)
        self.edit(deep_wish(), (("past", (1, 1, 0)), ("past", (2, 2, 0)), ("unpast",)), ((9, 0, 0), (1, 1, 0)),
                  deep_wish().scripts)

    def test_a_new_row(self):
        one, other = deep_wish().scripts
        past = deep_wish().past
        self.edit(deep_wish(), (("script", 0, (), 1, 2),), past, (((0, 0, one[0][2]), (1, 2, ()), (2, 0, ())), other))
        self.edit(deep_wish(), (("script", 1, (), 0, 1),), past, (one, ((0, 1, ()),) + other))
        self.edit(deep_wish(), (("script", 1, (1, 1), 2, 1),), past, (one, ((1, 0, ((1, 0, ((2, 1, ()),)),)),)))
        self.edit(deep_wish(), (("script", 0, (0,), 0, 1), ("script", 0, (0, 0), 2, 2)), past,
                  (((0, 0, ((0, 1, ((2, 2, ()),)),) + one[0][2]), (2, 0, ())), other))

    def test_a_new_answer_keeps_what_stands_behind(self):
        one, other = deep_wish().scripts
        past = deep_wish().past
        self.edit(deep_wish(), (("script", 0, (), 0, 2),), past, (((0, 2, one[0][2]), (2, 0, ())), other))
        self.edit(deep_wish(), (("script", 0, (0,), 1, 0),), past, (((0, 0, ((1, 0, ((2, 2, ()),)),)), (2, 0, ())), other))
        self.edit(deep_wish(), (("script", 0, (0, 1), 2, 0),), past, (((0, 0, ((1, 1, ((2, 0, ()),)),)), (2, 0, ())), other))
        self.edit(deep_wish(), (("script", 0, (), 0, 0),), past, (one, other))

    def test_a_new_hand_at_the_end(self):
        scripts, past = deep_wish().scripts, deep_wish().past
        self.edit(deep_wish(), (("script", 2, (), 1, 2),), past, scripts + (((1, 2, ()),),))
        wish = Wish(least_book(1, 1), (), ((),))
        self.edit(wish, (("script", 1, (), 0, 1), ("script", 2, (), 0, 2), ("script", 2, (0,), 0, 0)), (),
                  ((), ((0, 1, ()),), ((0, 2, ((0, 0, ()),)),)))
        self.edit(wish, (("script", 1, (), 0, 1), ("unscript", 1, (0,)), ("script", 2, (), 0, 0)), (), ((), (), ((0, 0, ()),)))

    def test_unscript(self):
        one, other = deep_wish().scripts
        past = deep_wish().past
        self.edit(deep_wish(), (("unscript", 0, (0,)),), past, (((2, 0, ()),), other))
        self.edit(deep_wish(), (("unscript", 0, (2,)),), past, (one[:1], other))
        self.edit(deep_wish(), (("unscript", 0, (0, 1)),), past, (((0, 0, ()), (2, 0, ())), other))
        self.edit(deep_wish(), (("unscript", 0, (0, 1, 2)),), past, (((0, 0, ((1, 1, ()),)), (2, 0, ())), other))
        self.edit(deep_wish(), (("unscript", 1, (1,)),), past, (one, ()))

    def test_a_script_taken_away_ahead_of_others(self):
        one, other = deep_wish().scripts
        third = ((0, 1, ()),)
        wish = Wish(deep_wish().book, deep_wish().past, (one, other, third))
        self.edit(wish, (("unscript", 0, ()),), wish.past, (other, third))
        self.edit(wish, (("unscript", 1, ()),), wish.past, (one, third))
        self.edit(wish, (("unscript", 2, ()),), wish.past, (one, other))
        self.edit(wish, (("unscript", 0, ()), ("script", 1, (), 1, 2), ("unscript", 0, ())), wish.past,
                  (((0, 1, ()), (1, 2, ())),))
        self.edit(wish, (("unscript", 0, ()), ("script", 2, (), 1, 2)), wish.past, (other, third, ((1, 2, ()),)))

    def test_each_edit_is_done_on_what_is_left(self):
        wish = Wish(set_and_look(), (), (((1, 0, ()),),))
        self.edit(wish, (("past", (3, 0, 0)), ("script", 0, (), 1, 1), ("script", 1, (), 0, 0), ("way", (1, 1, 0, 0)),
                         ("past", (3, 1, 0)), ("unway", (1, 1, 1, 1))), ((3, 0, 0), (3, 1, 0)), (((1, 1, ()),), ((0, 0, ()),)),
                  Book(2, 2, ((0, 0, 0, 1), (0, 1, 0, 0), (1, 0, 0, 1), (1, 1, 0, 0))))

    def test_rows_of_100_edits_and_101(self):
        way = (1, 1, 1, 1)
        self.edit(toss_wish(), (("way", way), ("unway", way)) * 50, (), TOSS_SCRIPTS)
        for edits in ((("way", way), ("unway", way)) * 50 + (("unpast",),), [None] * 101, (("unpast",),) * 500):
            self.refuses(BadEdit, {"index": 100, "what": "shape"}, edited, toss_wish(), edits)
        self.refuses(BadEdit, {"index": 99, "what": "wish"}, edited, toss_wish(),
                     (("way", way),) + (("unway", way), ("way", way)) * 49 + (("unpast",),))

    def test_200_cuts(self):
        wish = Wish(least_book(1, 4), (), (full_script(4, 1), full_script(4, 1), full_script(4, 1)))
        self.edit(wish, (("script", 0, (0,), 0, 0), ("script", 0, (0,), 1, 0), ("script", 0, (0,), 2, 0)), (),
                  (((0, 0, full_script(3, 1)),) + full_script(4, 1)[1:],) + (full_script(4, 1),) * 2)
        self.refuses(BadEdit, {"index": 3, "what": "wish"}, edited, wish, [("script", 0, (0,), call, 0) for call in range(4)])
        self.edit(wish, (("script", 0, (), 0, 2),), (), (((0, 2, ()),) + full_script(4, 1)[1:],) + (full_script(4, 1),) * 2)


class TestRefused(Case):

    def refused(self, what, wish, edit, ahead=()):
        for form in (edit, as_lists(edit)):
            before = Wish(wish.book, wish.past, wish.scripts)
            self.refuses(BadEdit, {"index": len(ahead), "what": what}, edited, wish, tuple(ahead) + (form,))
            self.refuses(BadEdit, {"index": len(ahead), "what": what}, edited, wish, list(ahead) + [form, None])
            self.assertEqual(wish, before)

    def test_no_sequence(self):
        for thing in NOT_SEQUENCES + ("way", {"way": 1}):
            self.refuses(BadEdit, {"index": 0, "what": "shape"}, edited, toss_wish(), thing)

    def test_shape(self):
        good = (("way", (1, 1, 1, 1)),)
        for edit in NOT_SEQUENCES + ("way", "unpast", (), [], ("Way", (1, 1, 1, 1)), ("", (0, 0, 0, 0)), (b"way", (1, 1, 1, 1)),
                                     (None,), (("way",), (1, 1, 1, 1)), (["unpast"],), ({},), (0, 1), ("way",), ("unway",),
                                     ("past",),
                                     ("script",), ("unscript",), ("unpast", ()), ("unpast", None), ("way", (1, 1, 1, 1), None),
                                     ("unway", (0, 0, 0, 1), 0), ("past", (0, 0, 0), ()), ("past", 0, 0, 0), ("script", 0, (), 0),
                                     ("script", 0, (), 0, 0, ()), ("unscript", 0), ("unscript", 0, (), 0), ("way", 1, 1, 1, 1)):
            for ahead in ((), good):
                self.refuses(BadEdit, {"index": len(ahead), "what": "shape"}, edited, toss_wish(), ahead + (edit, None))

    def test_ways(self):
        for way in NOT_WAYS:
            self.refuses(BadEdit, {"index": 0, "what": "book"}, edited, toss_wish(), [("way", way)])
            self.refuses(BadEdit, {"index": 0, "what": "book"}, edited, toss_wish(), [("unway", way)])
        for number in NOT_NUMBERS:
            for at in range(4):
                missing, there = [1, 1, 1, 1], [1, 0, 1, 2]
                missing[at] = there[at] = number
                self.refuses(BadEdit, {"index": 0, "what": "book"}, edited, toss_wish(), [("way", missing)])
                self.refuses(BadEdit, {"index": 0, "what": "book"}, edited, toss_wish(), [("unway", there)])
        self.refused("book", toss_wish(), ("way", (0, 0, 0, 1)))
        self.refused("book", toss_wish(), ("way", (1, 1, 1, 1)), (("way", (1, 1, 1, 1)),))
        self.refused("book", toss_wish(), ("unway", (1, 1, 1, 1)))
        self.refused("book", toss_wish(), ("unway", (1, 1, 0, 1)))
        self.refused("book", toss_wish(), ("unway", (0, 0, 1, 2)), (("unway", (0, 0, 0, 1)),))

    def test_a_past_that_is_no_longer_right(self):
        wish = Wish(toss_and_show(), ((4, 0, 1), (5, 1, 1)), ((),))
        self.refused("wish", wish, ("unway", (0, 0, 1, 2)))
        self.refused("wish", wish, ("unway", (2, 1, 1, 2)), (("way", (2, 1, 0, 2)),))
        self.assertEqual(edited(wish, [("unway", (0, 0, 0, 1))]).past, wish.past)
        self.refused("wish", toss_wish(), ("unway", (0, 0, 1, 2)), (("past", (3, 0, 1)),))

    def test_book_comes_ahead_of_wish(self):
        wish = Wish(set_and_look(), ((4, 0, 0),), ((),))
        self.refused("book", wish, ("unway", (0, 0, 0, 1)))

    def test_past(self):
        for entry in NOT_SEQUENCES + ((), (0, 0), (0, 0, 0, 0), (10, 0, 0), (-1, 0, 0), (0, 2, 0), (0, 0, 3),
                                      (0, 1, 1), (0, 0, 2)):
            self.refuses(BadEdit, {"index": 0, "what": "wish"}, edited, toss_wish(), [("past", entry)])
        for number in NOT_NUMBERS:
            for at in range(3):
                entry = [1, 0, 1]
                entry[at] = number
                self.refuses(BadEdit, {"index": 0, "what": "wish"}, edited, toss_wish(), [("past", entry)])
        self.refused("wish", toss_wish(), ("past", (0, 0, 0)), (("past", (0, 0, 0)),) * 6)
        self.refused("wish", toss_wish(), ("past", (0, 1, 1)), (("past", (0, 0, 0)),))

    def test_unpast(self):
        self.refused("wish", toss_wish(), ("unpast",))
        self.refused("wish", deep_wish(), ("unpast",), (("unpast",),))

    def test_script(self):
        for hand in NOT_HANDS + (3,):
            self.refuses(BadEdit, {"index": 0, "what": "wish"}, edited, deep_wish(), [("script", hand, (), 0, 0)])
        for turn in NOT_SEQUENCES + ((1,), (0, 0), (0, 1, 0), (0, 1, 2, 0), [None], (0, (1,))):
            self.refuses(BadEdit, {"index": 0, "what": "wish"}, edited, deep_wish(), [("script", 0, turn, 0, 0)])
        for number in NOT_NUMBERS:
            self.refuses(BadEdit, {"index": 0, "what": "wish"}, edited, deep_wish(), [("script", 0, (0, number), 0, 0)])
            self.refuses(BadEdit, {"index": 0, "what": "wish"}, edited, deep_wish(), [("script", 1, [number], 0, 0)])
        for number in NOT_NUMBERS + (3, -1, 10 ** 100):
            for hand, turn in ((0, ()), (0, (0,)), (1, ()), (2, ())):
                self.refused("wish", deep_wish(), ("script", hand, turn, number, 0))
                self.refused("wish", deep_wish(), ("script", hand, turn, 0, number))
        self.refused("wish", deep_wish(), ("script", 0, (0, 1, 2), 0, 0))
        self.refused("wish", deep_wish(), ("script", 0, (0, 1, 2), 9, 9))

    def test_new_hands(self):
        wish = Wish(least_book(1, 1), (), ((), (), ()))
        self.refused("wish", wish, ("script", 3, (), 0, 0))
        self.refused("wish", deep_wish(), ("script", 2, (0,), 0, 0))
        self.refused("wish", deep_wish(), ("script", 3, (), 0, 0))
        self.refused("wish", deep_wish(), ("script", 3, (), 0, 0), (("script", 2, (), 0, 0),))
        self.refused("wish", Wish(least_book(1, 1), (), ((),)), ("script", 2, (), 0, 0))
        for thing in NOT_SEQUENCES:
            self.refuses(BadEdit, {"index": 0, "what": "wish"}, edited, deep_wish(), [("script", 2, thing, 0, 0)])
        for hand in (True, 1.0):
            self.refused("wish", Wish(least_book(1, 1), (), ((),)), ("script", hand, (), 0, 0))

    def test_unscript(self):
        for hand in NOT_HANDS + (2, 3):
            for turn in ((), (1,)):
                self.refuses(BadEdit, {"index": 0, "what": "wish"}, edited, deep_wish(), [("unscript", hand, turn)])
        for turn in NOT_SEQUENCES + ((1,), (0, 0), (0, 1, 0), (0, 1, 2, 0), [None], (0, (1,))):
            self.refuses(BadEdit, {"index": 0, "what": "wish"}, edited, deep_wish(), [("unscript", 0, turn)])
        for number in NOT_NUMBERS:
            self.refuses(BadEdit, {"index": 0, "what": "wish"}, edited, deep_wish(), [("unscript", 0, (0, number))])
            self.refuses(BadEdit, {"index": 0, "what": "wish"}, edited, deep_wish(), [("unscript", 1, [number])])
        self.refused("wish", deep_wish(), ("unscript", 0, ()), (("unscript", 0, ()),))
        self.refused("wish", Wish(least_book(1, 1), (), ((),)), ("unscript", 0, ()))


class TestAgainstPlainEdits(Case):

    def test_rows_of_edits(self):
        dice = random.Random(322)
        faults, done = {}, 0
        for wish in drawn_wishes(322, 120) + likely_wishes(323, 60):
            present, row = wish, []
            told = (set(wish.book.ways), wish.past, table_of(wish.scripts))
            for _ in range(dice.randrange(12)):
                row.append(drawn_edit(dice, present))
                after = plain_edited(wish.book.states, wish.book.calls, told, row[-1])
                if isinstance(after, str):
                    self.refuses(BadEdit, {"index": len(row) - 1, "what": after}, edited, wish, row)
                    self.refuses(BadEdit, {"index": 0, "what": after}, edited, present, row[-1:])
                    faults[after, row[-1][0]] = faults.get((after, row[-1][0]), 0) + 1
                    row.pop()
                    continue
                told = after
                book = Book(wish.book.states, wish.book.calls, sorted(told[0]))
                present = Wish(book, told[1], [script_of(table) for table in told[2]])
                self.assertEqual(edited(wish, row), present)
                done += 1
            self.assertEqual(edited(wish, as_lists(row)), present)
        self.assertGreater(done, 400)
        self.assertTrue({("book", "way"), ("book", "unway"), ("wish", "past"), ("wish", "unpast"), ("wish", "script"),
                         ("wish", "unscript")} <= set(faults), faults)

    def test_a_way_never_makes_a_past_wrong(self):
        dice = random.Random(324)
        for wish in drawn_wishes(324, 60):
            missing = [way for way in all_ways(wish.book.states, wish.book.calls) if way not in wish.book]
            if missing:
                found = edited(wish, [("way", dice.choice(missing))])
                self.assertSame((found.past, found.scripts), (wish.past, wish.scripts))

    def test_numbers_of_states_and_calls_stay(self):
        for wish in drawn_wishes(325, 20):
            found = edited(wish, [("script", 0, (), 0, 1)]) if cuts_in(wish.scripts) < 60 else wish
            self.assertSame((found.book.states, found.book.calls), (wish.book.states, wish.book.calls))

    def test_what_is_passed_may_change_later(self):
        way, entry, turn = [1, 1, 1, 1], [3, 0, 1], [0]
        edits = [["way", way], ["past", entry], ["script", 0, turn, 1, 1], ["unscript", 1, []]]
        wish = toss_wish()
        found = edited(wish, edits)
        self.assertSame(edits, [["way", [1, 1, 1, 1]], ["past", [3, 0, 1]], ["script", 0, [0], 1, 1], ["unscript", 1, []]])
        way[0] = entry[0] = turn[0] = 2
        edits.clear()
        self.assertEqual(found, Wish(toss_and_show().with_way((1, 1, 1, 1)), ((3, 0, 1),), (((0, 0, ((1, 1, ()),)),),)))
        self.assertEqual(wish, toss_wish())
