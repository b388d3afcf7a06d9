"""[10.1] to [10.5], and of [10.12] what it says of lots."""

import random
from itertools import combinations

from tests.helper import (NOT_NUMBERS, NOT_SEQUENCES, TOSS_SCRIPTS, Case, all_ways, as_lists, full_book, least_book,
                          likely_wishes, mixed_forms, set_and_look, toss_and_show)
from unmetcells.books import Book
from unmetcells.covers import looser_fault
from unmetcells.errors import BadPool
from unmetcells.foes import Barred, is_had, wish_fault
from unmetcells.loosen import (Needless, check_pool, firm_lots, loosen_fault, loosened, loosened_wish, loosenings)
from unmetcells.scripts import Wish

POOL = ((1, 1, 1, 1), (2, 1, 0, 2), (0, 1, 1, 0))

# Things that are no ways of three states and two calls.
NOT_WAYS = NOT_SEQUENCES + ((), (0, 0, 0), (0, 0, 0, 0, 0), (3, 0, 0, 0), (0, 2, 0, 0), (0, 0, 3, 0), (0, 0, 0, 3), (-1, 0, 0, 0),
                            [0, -1, 0, 0], (0, 0, 10 ** 100, 0))

# All functions that check ways, with what is passed ahead of them; the first three want one way at least.
POOL_ASKS = (check_pool, loosenings, firm_lots)
LOT_ASKS = (loosened, loosened_wish, loosen_fault)


def toss_wish():
    """The wish of [10.12]."""
    return Wish(toss_and_show(), (), TOSS_SCRIPTS)


def ahead_of(ask, wish):
    """The book or the wish that a function takes first."""
    return wish.book if ask in (check_pool, loosened) else wish


def pool_samples(seed, many, most=4):
    """So many couples of a wish and a pool, ascending; most of the wishes are not had."""
    dice = random.Random(seed)
    found = []
    for wish in likely_wishes(seed, 3 * many):
        missing = [way for way in all_ways(wish.book.states, wish.book.calls) if way not in wish.book]
        pool = tuple(sorted(dice.sample(missing, min(len(missing), dice.randrange(1, most + 1)))))
        if pool and len(found) < many and (not is_had(wish) or dice.randrange(4) == 0):
            found.append((wish, pool))
    return found


def lots_of(pool):
    """All lots of a pool, the shorter ones first, then ascending."""
    return [lot for many in range(len(pool) + 1) for lot in combinations(sorted(pool), many)]


def helping_lots(wish, pool):
    """The lots of a pool that help, judged one by one."""
    return {lot for lot in lots_of(pool) if is_had(Wish(Book(wish.book.states, wish.book.calls, wish.book.ways + lot),
                                                        wish.past, wish.scripts))}


class TestPools(Case):

    def test_check_pool(self):
        for form in mixed_forms(POOL):
            self.assertSame(check_pool(toss_and_show(), form), tuple(sorted(POOL)))
        self.assertSame(check_pool(toss_and_show(), [[1, 1, 1, 1]]), ((1, 1, 1, 1),))

    def test_1_and_6_ways(self):
        ways = [way for way in all_ways(3, 2) if way not in toss_and_show()]
        for many in range(1, 7):
            pool = ways[-many:]
            self.assertSame(check_pool(toss_and_show(), pool[::-1]), tuple(pool))
            self.assertEqual(loosened(toss_and_show(), pool[::-1]), Book(3, 2, toss_and_show().ways + tuple(pool)))

    def test_many(self):
        ways = [way for way in all_ways(3, 2) if way not in toss_and_show()]
        for ask in POOL_ASKS + LOT_ASKS:
            for thing in NOT_SEQUENCES + (ways[:7], (None,) * 7, tuple(ways)):
                self.refuses(BadPool, {"index": 0, "what": "many"}, ask, ahead_of(ask, toss_wish()), thing)
        for ask in POOL_ASKS:
            for thing in ((), []):
                self.refuses(BadPool, {"index": 0, "what": "many"}, ask, ahead_of(ask, toss_wish()), thing)

    def test_way(self):
        for ask in POOL_ASKS + LOT_ASKS:
            for thing in NOT_WAYS:
                for more in ((), (None,), (POOL[0],)):
                    self.refuses(BadPool, {"index": 1, "what": "way"}, ask, ahead_of(ask, toss_wish()), (POOL[0], thing) + more)
            for number in NOT_NUMBERS:
                for at in range(4):
                    way = [1, 1, 1, 1]
                    way[at] = number
                    self.refuses(BadPool, {"index": 0, "what": "way"}, ask, ahead_of(ask, toss_wish()), [way, way, None])

    def test_there_and_double(self):
        there = (2, 1, 1, 2)
        for ask in POOL_ASKS + LOT_ASKS:
            for way in (there, list(there)):
                for more in ((), (None,), (way,)):
                    self.refuses(BadPool, {"index": 1, "what": "there"}, ask, ahead_of(ask, toss_wish()), (POOL[0], way) + more)
            for way in (POOL[0], list(POOL[0])):
                for more in ((), (None,), (there,)):
                    pool = (POOL[0], POOL[1], way) + more
                    self.refuses(BadPool, {"index": 2, "what": "double"}, ask, ahead_of(ask, toss_wish()), pool)
            self.refuses(BadPool, {"index": 1, "what": "double"}, ask, ahead_of(ask, toss_wish()), [POOL[2]] * 6)
            self.refuses(BadPool, {"index": 0, "what": "there"}, ask, ahead_of(ask, toss_wish()), [there] * 6)

    def test_the_least_index_comes_first(self):
        for ask in POOL_ASKS + LOT_ASKS:
            self.refuses(BadPool, {"index": 1, "what": "double"}, ask, ahead_of(ask, toss_wish()),
                         (POOL[0], POOL[0], (2, 1, 1, 2), (9, 9, 9, 9)))
            self.refuses(BadPool, {"index": 1, "what": "there"}, ask, ahead_of(ask, toss_wish()),
                         (POOL[0], (2, 1, 1, 2), POOL[0], (9, 9, 9, 9)))

    def test_what_is_passed_stays(self):
        for ask in POOL_ASKS + LOT_ASKS:
            pool, wish = as_lists(POOL), toss_wish()
            found = ask(ahead_of(ask, wish), pool)
            self.assertSame(pool, as_lists(POOL))
            self.assertEqual(wish, toss_wish())
            pool[0][0] = 0
            pool.pop()
            if ask is check_pool:
                self.assertSame(found, tuple(sorted(POOL)))
            if ask is loosened:
                self.assertEqual(found, Book(3, 2, toss_and_show().ways + POOL))


class TestLoosened(Case):

    def test_the_bare_lot(self):
        for lot in ((), []):
            self.assertEqual(loosened(toss_and_show(), lot), toss_and_show())
            self.assertEqual(loosened_wish(toss_wish(), lot), toss_wish())
            self.assertEqual(loosen_fault(toss_wish(), lot), wish_fault(toss_wish()))

    def test_lots_in_any_order(self):
        for lot in (POOL, POOL[::-1], as_lists(POOL), POOL[1:], POOL[:1]):
            book = Book(3, 2, toss_and_show().ways + tuple(tuple(way) for way in lot))
            self.assertEqual(loosened(toss_and_show(), lot), book)
            self.assertEqual(loosened_wish(toss_wish(), lot), Wish(book, (), TOSS_SCRIPTS))

    def test_past_and_scripts_stay(self):
        for wish, pool in pool_samples(311, 30):
            for lot in lots_of(pool):
                found = loosened_wish(wish, lot)
                self.assertSame((found.past, found.scripts), (wish.past, wish.scripts))
                self.assertEqual(found.book, loosened(wish.book, lot))
                self.assertIs(looser_fault(wish.book, found.book), None)

    def test_432_ways(self):
        book = full_book(6, 4).without_way((0, 0, 0, 0)).without_way((5, 3, 2, 5))
        self.assertEqual(loosened(book, ((5, 3, 2, 5), (0, 0, 0, 0))), full_book(6, 4))


class TestLots(Case):

    def test_example(self):
        for form in mixed_forms(POOL):
            self.assertSame(loosenings(toss_wish(), form), (((1, 1, 1, 1),), ((2, 1, 0, 2),)))
            self.assertSame(firm_lots(toss_wish(), form), (((0, 1, 1, 0),),))

    def test_a_wish_that_is_had(self):
        wish = Wish(set_and_look(), ((0, 0, 0),), (((0, 0, ()),), ((1, 1, ()),)))
        self.assertSame(loosenings(wish, [(0, 0, 1, 0), (1, 1, 0, 0)]), ((),))
        self.assertSame(firm_lots(wish, [(0, 0, 1, 0), (1, 1, 0, 0)]), ())
        self.assertIs(loosen_fault(wish, ()), None)
        self.assertEqual(loosen_fault(wish, [(1, 1, 0, 0), (0, 0, 1, 0)]), Needless((0, 0, 1, 0)))

    def test_a_pool_that_does_not_help(self):
        wish = Wish(least_book(1, 1), (), (((0, 1, ()),),))
        self.assertSame(loosenings(wish, [[0, 0, 2, 0]]), ())
        self.assertSame(firm_lots(wish, [[0, 0, 2, 0]]), (((0, 0, 2, 0),),))
        self.assertSame(loosenings(wish, [(0, 0, 2, 0), (0, 0, 1, 0)]), (((0, 0, 1, 0),),))
        self.assertSame(firm_lots(wish, [(0, 0, 2, 0), (0, 0, 1, 0)]), (((0, 0, 2, 0),),))

    def test_shorter_and_longer_lots(self):
        """Two ways together help, and another one alone."""
        book = least_book(2, 2)
        wish = Wish(book, (), (((0, 1, ()),), ((1, 1, ()),)))
        pool = ((0, 0, 1, 0), (0, 1, 1, 0), (1, 0, 1, 0))
        self.assertSame(loosenings(wish, pool), (((0, 0, 1, 0), (0, 1, 1, 0)),))
        self.assertSame(firm_lots(wish, pool), (((0, 0, 1, 0), (1, 0, 1, 0)), ((0, 1, 1, 0), (1, 0, 1, 0))))
        other = Wish(Book(2, 1, ((0, 0, 0, 0), (1, 0, 0, 0))), (), (((0, 1, ((0, 2, ()),)),),))
        pool = ((0, 0, 1, 0), (0, 0, 1, 1), (0, 0, 2, 0), (1, 0, 2, 1))
        self.assertSame(loosenings(other, pool), (((0, 0, 1, 0), (0, 0, 2, 0)), ((0, 0, 1, 1), (1, 0, 2, 1))))
        self.assertSame(firm_lots(other, pool), (((0, 0, 1, 0), (0, 0, 1, 1)), ((0, 0, 1, 0), (1, 0, 2, 1)),
                                                 ((0, 0, 1, 1), (0, 0, 2, 0)), ((0, 0, 2, 0), (1, 0, 2, 1))))

    def test_lots_of_several_sizes(self):
        wish = Wish(Book(2, 1, ((0, 0, 0, 0), (1, 0, 0, 0))), (), (((0, 1, ((0, 2, ()),)),),))
        pool = ((0, 0, 1, 0), (0, 0, 2, 0), (0, 0, 2, 1))
        self.assertSame(loosenings(wish, pool), (((0, 0, 1, 0), (0, 0, 2, 0)), ((0, 0, 1, 0), (0, 0, 2, 1))))
        self.assertSame(firm_lots(wish, pool), (((0, 0, 2, 0), (0, 0, 2, 1)), ((0, 0, 1, 0),)))
        wish = Wish(Book(2, 1, ((0, 0, 0, 0), (1, 0, 0, 0), (1, 0, 2, 0))), (), wish.scripts)
        pool = ((0, 0, 1, 0), (0, 0, 1, 1), (0, 0, 2, 0))
        self.assertSame(loosenings(wish, pool), (((0, 0, 1, 1),), ((0, 0, 1, 0), (0, 0, 2, 0))))
        self.assertSame(firm_lots(wish, pool), (((0, 0, 1, 0),), ((0, 0, 2, 0),)))

    def test_against_all_lots(self):
        sizes = {}
        for wish, pool in pool_samples(312, 120):
            helping = helping_lots(wish, pool)
            least = [lot for lot in lots_of(pool) if lot in helping
                     and not any(tuple(other for other in lot if other != way) in helping for way in lot)]
            greatest = [lot for lot in lots_of(pool) if lot not in helping
                        and all(tuple(sorted(lot + (way,))) in helping for way in pool if way not in lot)]
            for form in (pool, as_lists(pool)[::-1]):
                self.assertSame(loosenings(wish, form), tuple(least))
                self.assertSame(firm_lots(wish, form), tuple(sorted(greatest, key=lambda lot: (-len(lot), lot))))
            self.assertTuples((loosenings(wish, pool), firm_lots(wish, pool)))
            many = tuple(sorted({len(lot) for lot in least}))
            sizes[many] = sizes.get(many, 0) + 1
        self.assertTrue({(), (0,), (1,), (2,)} <= set(sizes), sizes)

    def test_what_helps(self):
        """[10.4] and the last sentences of [10.2]."""
        for wish, pool in pool_samples(313, 80):
            helping, least, firm = helping_lots(wish, pool), loosenings(wish, pool), firm_lots(wish, pool)
            for lot in lots_of(pool):
                self.assertIs(lot in helping, any(set(other) <= set(lot) for other in least))
                self.assertIs(lot in helping, all(set(lot) - set(other) for other in firm))
                if lot in helping:
                    self.assertTrue(all(other in helping for other in lots_of(pool) if set(lot) <= set(other)))
            self.assertIs(least == ((),), is_had(wish))
            self.assertIs(firm == (), is_had(wish))
            self.assertIs(least == (), pool not in helping)
            self.assertIs(firm == (pool,), pool not in helping)

    def test_6_ways(self):
        dice = random.Random(314)
        for wish in [wish for wish in likely_wishes(314, 40) if not is_had(wish)][:6]:
            missing = [way for way in all_ways(wish.book.states, wish.book.calls) if way not in wish.book]
            pool = tuple(sorted(dice.sample(missing, 6)))
            helping = helping_lots(wish, pool)
            self.assertTrue(set(loosenings(wish, pool)) <= helping)
            self.assertFalse(set(firm_lots(wish, pool)) & helping)


class TestLoosenFault(Case):

    def test_example(self):
        found = loosen_fault(toss_wish(), [(0, 1, 1, 0)])
        self.assertIs(found.__class__, Barred)
        self.assertEqual(found, wish_fault(loosened_wish(toss_wish(), [(0, 1, 1, 0)])))
        self.assertIs(loosen_fault(toss_wish(), ((1, 1, 1, 1),)), None)
        self.assertIs(loosen_fault(toss_wish(), [[2, 1, 0, 2]]), None)
        self.assertEqual(loosen_fault(toss_wish(), ((1, 1, 1, 1), (0, 1, 1, 0))), Needless((0, 1, 1, 0)))
        for lot in (POOL, POOL[::-1], as_lists(POOL)):
            self.assertEqual(loosen_fault(toss_wish(), lot), Needless((0, 1, 1, 0)))
        both = loosen_fault(toss_wish(), [[2, 1, 0, 2], [1, 1, 1, 1]])
        self.assertSame(both.way, (1, 1, 1, 1))

    def test_against_all_lots(self):
        kinds = {}
        for wish, pool in pool_samples(315, 120):
            helping, least = helping_lots(wish, pool), loosenings(wish, pool)
            for lot in lots_of(pool):
                found = loosen_fault(wish, as_lists(lot)[::-1])
                if lot not in helping:
                    self.assertEqual(found, wish_fault(loosened_wish(wish, lot)))
                    self.assertIs(found.__class__, Barred)
                else:
                    needless = [way for way in lot if tuple(other for other in lot if other != way) in helping]
                    self.assertEqual(found, Needless(needless[0]) if needless else None)
                    self.assertIs(found is None, lot in least)
                kinds[found.__class__.__name__] = kinds.get(found.__class__.__name__, 0) + 1
        self.assertGreater(min(kinds.get(name, 0) for name in ("NoneType", "Barred", "Needless")), 20, kinds)

    def test_result(self):
        self.isResult(Needless, "way")
