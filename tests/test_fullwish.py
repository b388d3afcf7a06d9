"""[8.1] to [8.10]."""

import random
from itertools import product

from tests.helper import (NOT_NUMBERS, NOT_SEQUENCES, Case, as_lists, as_tuples, cuts_in, full_book, full_script, least_book,
                          mixed_forms, plain_joint, set_and_look, toss_and_show, walk_ends)
from tests.test_heads import ROUND
from unmetcells.books import Book
from unmetcells.covers import looser_fault
from unmetcells.cuts import cuts_of
from unmetcells.errors import BadDepth, BadHands, BadPast, HasFull, TooMany
from unmetcells.foes import is_had, plan_fault, wish_fault
from unmetcells.fullwish import deepest, full_places, full_refusal, full_refusal_fault, full_wish
from unmetcells.scripts import Wish

REFUSAL = ("fill", ((0, ("fill", ((0, ("barred", ((0,), (0,)), ((((),), None),))),
                                     (1, ("barred", ((), (0,)), ((((),), None),)))))),
                    (1, ("barred", ((0,), ()), ((((),), None),)))))

ASKS = ((full_wish, ()), (full_refusal, ()), (full_refusal_fault, (None,)), (deepest, ()))


def counter():
    """The book of [8.10]."""
    return Book(2, 1, ((0, 0, 0, 1), (1, 0, 1, 0)))


def plain_places(book, hands, depth):
    """All places, by the length of the turn, then by the hand, then by the turn."""
    places = [(hand, turn) for hand in range(hands) for many in range(1, depth + 1)
              for turn in product(range(book.calls), repeat=many)]
    return sorted(places, key=lambda place: (len(place[1]), place))


def script_from(book, filled, hand, turn=()):
    """The script of a hand behind a turn, with the rows of the filled places alone."""
    rows = []
    for call in range(book.calls):
        if (hand, turn + (call,)) in filled:
            rows.append((call, filled[(hand, turn + (call,))], script_from(book, filled, hand, turn + (call,))))
    return tuple(rows)


def filled_wish(book, past, hands, places, answers):
    """The wish with the scripts of the first places, filled with these answers."""
    filled = dict(zip(places, answers))
    return Wish(book, past, [script_from(book, filled, hand) for hand in range(hands)])


def plain_full(book, past, hands, depth):
    """The scripts of the first filling that is had, filling by filling."""
    places = plain_places(book, hands, depth)
    for answers in product(sorted({way[2] for way in book}), repeat=len(places)):
        wish = filled_wish(book, past, hands, places, answers)
        if is_had(wish):
            return wish.scripts
    return None


def plain_refusal(book, past, hands, depth, answers=()):
    """The refusal behind these answers, each judged as a wish of its own."""
    places = plain_places(book, hands, depth)
    barred = wish_fault(filled_wish(book, past, hands, places, answers))
    if barred is not None:
        return ("barred", barred.cut, barred.plan)
    return ("fill", tuple((answer, plain_refusal(book, past, hands, depth, answers + (answer,))) for answer in book.answers))


def plain_refusal_fault(book, past, hands, depth, refusal, answers=()):
    """The answers at the first fault of a refusal, walked on its own."""
    places = plain_places(book, hands, depth)
    wish = filled_wish(book, past, hands, places, answers)
    if refusal.__class__ not in (list, tuple) or len(refusal) == 0 or refusal[0] not in ("barred", "fill"):
        return answers
    if refusal[0] == "barred":
        if len(refusal) != 3 or as_tuples(refusal[1]) not in cuts_of(wish) or True in flat(refusal[1]):
            return answers
        joint = plain_joint(wish, as_tuples(refusal[1]))
        return answers if plan_fault(book, joint, refusal[2]) is not None else None
    if len(refusal) != 2 or len(answers) == len(places) or refusal[1].__class__ not in (list, tuple):
        return answers
    if any(part.__class__ not in (list, tuple) or len(part) != 2 for part in refusal[1]):
        return answers
    if repr([part[0] for part in refusal[1]]) != repr(list(book.answers)):
        return answers
    for answer, lesser in refusal[1]:
        fault = plain_refusal_fault(book, past, hands, depth, lesser, answers + (answer,))
        if fault is not None:
            return fault
    return None


def flat(thing):
    """The bools within lists and tuples."""
    if isinstance(thing, (list, tuple)):
        return [found for item in thing for found in flat(item)]
    return [True] if isinstance(thing, bool) else []


def full_samples(seed, many, most=130):
    """So many couples of a past in a book with hands and a depth, with not too many fillings."""
    dice = random.Random(seed)
    found = []
    while len(found) < many:
        states, calls = dice.choice((1, 2, 2, 3, 3, 4)), dice.choice((1, 1, 2, 2, 3))
        answers = dice.choice(((0, 1), (0, 1), (0, 2), (1,), (0, 1, 2)))
        ways = []
        for state, call in product(range(states), range(calls)):
            all_ways = list(product((state,), (call,), answers, range(states)))
            ways += dice.sample(all_ways, min(len(all_ways), dice.choice((1, 1, 1, 2))))
        book, past, ends = Book(states, calls, ways), (), (0,)
        for _ in range(dice.choice((0, 0, 1, 2))):
            way = dice.choice([way for way in book if way[0] in ends])
            past, ends = past + ((dice.randrange(10),) + way[1:3],), walk_ends(book, ends, (way[1:3],))
        hands, depth = dice.choice((1, 2, 2, 2, 3)), dice.choice((0, 1, 1, 2, 2, 3))
        places = plain_places(book, hands, depth)
        if len(book.answers) ** len(places) <= most and len(places) < 20 and cuts_in([full_script(calls, depth)] * hands) <= 200:
            found.append((book, past, hands, depth))
    return found


def refused_samples(seed, many):
    """Samples without a full wish."""
    return [sample for sample in full_samples(seed, many) if full_wish(*sample) is None]


class TestPlaces(Case):

    def test_samples(self):
        self.assertSame(full_places(counter(), 2, 2), ((0, (0,)), (1, (0,)), (0, (0, 0)), (1, (0, 0))))
        self.assertSame(full_places(set_and_look(), 1, 2),
                        ((0, (0,)), (0, (1,)), (0, (0, 0)), (0, (0, 1)), (0, (1, 0)), (0, (1, 1))))
        self.assertSame(full_places(set_and_look(), 3, 0), ())

    def test_all(self):
        for calls, hands, depth in product(range(1, 5), range(1, 4), range(4)):
            found = full_places(least_book(1, calls), hands, depth)
            self.assertSame(found, tuple(plain_places(least_book(1, calls), hands, depth)))
            self.assertTuples(found)

    def test_errors(self):
        for hands in NOT_NUMBERS + (0, 4, -1, 10 ** 100):
            for depth in (1, 9, None):
                with self.assertRaises(BadHands) as caught:
                    full_places(counter(), hands, depth)
                self.assertIs(caught.exception.hands, hands)
                self.assertEqual(list(vars(caught.exception)), ["hands"])
        for depth in NOT_NUMBERS + (-1, 4, 10 ** 100):
            self.refuses(BadDepth, {}, full_places, counter(), 3, depth)


class TestErrors(Case):

    def test_bad_past_comes_first(self):
        for ask, more in ASKS:
            for past in NOT_SEQUENCES + (((0, 0, 1),), [(0, 0, 0), (1, 0, 0)], ((0, 0, 0), (1, 0, 1)) * 3 + ((0, 0, 0),),
                                          [(0, 0)],
                                         ((10, 0, 0),), ((0, 1, 0),), ((0, 0, 3),), ((True, 0, 0),)):
                self.refuses(BadPast, {}, ask, counter(), past, 1, 1, *more)
                self.refuses(BadPast, {}, ask, counter(), past, 9, None, *more)

    def test_hands_and_depths(self):
        for ask, more in ASKS:
            for hands in NOT_NUMBERS + (0, 4, -1, 10 ** 100):
                with self.assertRaises(BadHands) as caught:
                    ask(counter(), (), hands, 9, *more)
                self.assertIs(caught.exception.hands, hands)
            for depth in NOT_NUMBERS + (-1, 4, 10 ** 100):
                self.refuses(BadDepth, {}, ask, counter(), (), 1, depth, *more)
                self.refuses(BadDepth, {}, ask, full_book(1, 4), (), 3, depth, *more)

    def test_1024_fillings_and_more(self):
        both, three = Book(1, 2, ((0, 0, 0, 0), (0, 1, 1, 0))), full_book(1, 3)
        for ask, more in ASKS:
            self.refuses(TooMany, {"most": 1024}, ask, both, (), 2, 2, *more)
            self.refuses(TooMany, {"most": 1024}, ask, both, (), 1, 3, *more)
            self.refuses(TooMany, {"most": 1024}, ask, three, (), 3, 1, *more)
            self.refuses(TooMany, {"most": 1024}, ask, full_book(1, 1), (), 3, 3, *more)
        self.assertSame(full_wish(full_book(1, 1), (), 2, 3), (full_script(1, 3),) * 2)
        self.assertSame(full_wish(full_book(1, 3), (), 2, 1), (full_script(3, 1),) * 2)
        self.assertSame(full_wish(Book(1, 1, ((0, 0, 0, 0), (0, 0, 1, 0))), (), 3, 3), (full_script(1, 3),) * 3)
        self.assertSame(full_wish(both, (), 1, 2), (((0, 0, ((0, 0, ()), (1, 1, ()))), (1, 1, ((0, 0, ()), (1, 1, ())))),))

    def test_200_cuts_and_more(self):
        for ask, more in ASKS:
            self.refuses(TooMany, {"most": 200}, ask, least_book(1, 2), (), 3, 2, *more)
            self.refuses(TooMany, {"most": 200}, ask, least_book(2, 2), (), 2, 3, *more)
            self.refuses(TooMany, {"most": 200}, ask, least_book(1, 4), (), 2, 2, *more)
        for calls, hands, depth in ((3, 2, 2), (4, 3, 1), (4, 1, 3), (1, 3, 3), (2, 2, 2), (2, 1, 3)):
            self.assertSame(full_wish(least_book(2, calls), (), hands, depth), (full_script(calls, depth),) * hands)
            scripts = (full_script(calls, depth),) * hands
            self.refuses(HasFull, {"scripts": scripts}, full_refusal, least_book(2, calls), (), hands, depth)

    def test_fillings_come_ahead_of_cuts(self):
        for ask, more in ASKS:
            self.refuses(TooMany, {"most": 1024}, ask, full_book(1, 2), (), 3, 2, *more)
            self.refuses(TooMany, {"most": 1024}, ask, full_book(1, 4), (), 2, 3, *more)

    def test_the_depth_of_deepest_is_checked_ahead_of_all(self):
        self.refuses(TooMany, {"most": 1024}, deepest, full_book(1, 1), (), 3, 3)
        self.assertSame(deepest(full_book(1, 1), (), 3, 2), 2)


class TestFullWish(Case):

    def test_example(self):
        self.assertIs(full_wish(counter(), (), 2, 1), None)
        self.assertSame(full_wish(counter(), (), 1, 3), (((0, 0, ((0, 1, ((0, 0, ()),)),)),),))
        self.assertSame(full_wish(counter(), [[7, 0, 0]], 1, 2), (((0, 1, ((0, 0, ()),)),),))

    def test_depth_0(self):
        for book, past, hands, _ in full_samples(291, 20):
            self.assertSame(full_wish(book, past, hands, 0), ((),) * hands)
            self.refuses(HasFull, {"scripts": ((),) * hands}, full_refusal, book, past, hands, 0)

    def test_1_2_and_3_hands(self):
        for hands in (1, 2, 3):
            self.assertSame(full_wish(set_and_look(), ((0, 0, 0),), hands, 1), (((0, 0, ()), (1, 1, ())),) * hands)
        self.assertSame(full_wish(set_and_look(), (), 1, 1), (((0, 0, ()), (1, 0, ())),))
        self.assertIs(full_wish(set_and_look(), (), 2, 1), None)
        self.assertSame(full_wish(toss_and_show(), (), 2, 1), (((0, 0, ()), (1, 0, ())),) * 2)
        self.assertIs(full_wish(ROUND, (), 2, 1), None)

    def test_books_with_one_answer_alone(self):
        for answer, hands in product(range(3), (1, 2, 3)):
            book = Book(2, 1, ((0, 0, answer, 1), (1, 0, answer, 0)))
            script = ((0, answer, ((0, answer, ()),)),)
            self.assertSame(full_wish(book, (), hands, 2), (script,) * hands)
            self.refuses(HasFull, {"scripts": (script,) * hands}, full_refusal, book, (), hands, 2)
            self.assertSame(deepest(book, (), hands, 3), 3)

    def test_against_all_fillings(self):
        found = {True: 0, False: 0}
        for sample in full_samples(292, 400):
            wanted = plain_full(*sample)
            self.assertSame(full_wish(*sample), wanted)
            book, past, hands, depth = sample
            self.assertSame(full_wish(book, as_lists(past), hands, depth), wanted)
            if wanted is not None:
                self.assertTuples(wanted)
                self.assertIs(is_had(Wish(book, past, wanted)), True)
            found[wanted is None] += depth > 0 and hands > 1 and len(book.answers) > 1
        self.assertGreater(min(found.values()), 30, found)

    def test_the_first_one(self):
        """The least answers, first at short turns, then by hands."""
        book = Book(3, 1, [(0, 0, 1, 0), (0, 0, 2, 0), (1, 0, 0, 0), (2, 0, 0, 0)])
        self.assertSame(full_wish(book, (), 2, 2), (((0, 1, ((0, 1, ()),)),),) * 2)
        lasting = Book(3, 1, [(0, 0, 0, 1), (0, 0, 1, 2), (1, 0, 0, 1), (2, 0, 1, 2)])
        self.assertSame(full_wish(lasting, (), 2, 2), (((0, 0, ((0, 0, ()),)),),) * 2)
        later = Book(3, 1, [(0, 0, 0, 1), (0, 0, 1, 2), (1, 0, 2, 0), (2, 0, 1, 2)])
        self.assertSame(full_wish(later, (), 2, 1), (((0, 1, ()),),) * 2)
        self.assertSame(full_wish(later, (), 1, 2), (((0, 0, ((0, 2, ()),)),),))

    def test_the_past_stays(self):
        past = [[0, 0, 0]]
        for ask, more in ((full_wish, ()), (deepest, ()), (full_refusal_fault, ([],))):
            ask(counter(), past, 2, 1, *more)
        self.assertSame(past, [[0, 0, 0]])


class TestFullRefusal(Case):

    def test_example(self):
        self.assertSame(full_refusal(counter(), (), 2, 1), REFUSAL)
        self.assertIs(full_refusal_fault(counter(), (), 2, 1, REFUSAL), None)

    def test_against_wishes_of_their_own(self):
        tried = 0
        for sample in full_samples(293, 400):
            if full_wish(*sample) is None:
                found = full_refusal(*sample)
                self.assertSame(found, plain_refusal(*sample))
                self.assertIs(full_refusal_fault(*sample, found), None)
                self.assertIs(full_refusal_fault(*sample, as_lists(found)), None)
                tried += 1
            else:
                self.refuses(HasFull, {"scripts": full_wish(*sample)}, full_refusal, *sample)
        self.assertGreater(tried, 30)

    def test_the_first_barred_cut_of_three_hands(self):
        """Several cuts are barred at once, and the one that stands first in the order of cuts is told."""
        books = (((0, 0, 0, 2), (0, 1, 0, 0), (1, 0, 0, 2), (1, 0, 1, 2), (1, 1, 1, 0), (2, 0, 0, 1), (2, 0, 1, 1), (2, 1, 0, 2)),
                 ((0, 0, 0, 2), (0, 1, 0, 2), (0, 1, 1, 2), (1, 0, 0, 2), (1, 1, 0, 0), (2, 0, 0, 1), (2, 1, 1, 1)),
                 ((0, 0, 0, 0), (0, 0, 1, 0), (0, 1, 1, 1), (1, 0, 0, 1), (1, 0, 0, 2), (1, 1, 1, 2), (2, 0, 1, 1), (2, 1, 1, 2)))
        for ways in books:
            sample = (Book(3, 2, ways), (), 3, 1)
            found = full_refusal(*sample)
            self.assertSame(found, plain_refusal(*sample))
            self.assertIs(full_refusal_fault(*sample, found), None)
        self.assertIn("('barred', ((0,), (1,), (0,)), ((((),), None),))", repr(full_refusal(Book(3, 2, books[0]), (), 3, 1)))

    def test_a_plan_of_several_rows(self):
        found = full_refusal(ROUND, (), 2, 1)
        plan = ((((1,), (2,)), 2), (((),), None))
        self.assertIn(repr(("barred", ((1,), (0,)), plan)), repr(found))
        self.assertIs(full_refusal_fault(ROUND, (), 2, 1, found), None)
        self.assertIsNot(full_refusal_fault(ROUND.with_way((1, 2, 1, 1)), (), 2, 1, found), None)

    def test_what_is_returned_is_new(self):
        self.assertSame(full_refusal(counter(), [], 2, 1), full_refusal(counter(), (), 2, 1))


class TestFullRefusalFault(Case):

    def fault(self, refusal, wanted, book=None, past=(), hands=2, depth=1):
        for form in mixed_forms(refusal) if isinstance(refusal, (list, tuple)) else (refusal,):
            self.assertSame(full_refusal_fault(book or counter(), past, hands, depth, form), wanted)

    def with_part(self, at, part):
        """The refusal with something else in the place of a barred cut: of (0, 0), of (0, 1) or of (1,)."""
        inner = list(REFUSAL[1][0][1][1])
        if at == 2:
            return ("fill", (REFUSAL[1][0], (1, part)))
        inner[at] = (at, part)
        return ("fill", ((0, ("fill", tuple(inner))), REFUSAL[1][1]))

    def spoilt(self, part):
        """Want that this is at fault in each of three places and at the beginning."""
        self.fault(part, ())
        for at, answers in ((0, (0, 0)), (1, (0, 1)), (2, (1,))):
            self.fault(self.with_part(at, part), answers)

    def test_lists_in_the_place_of_tuples(self):
        self.fault(REFUSAL, None)

    def test_no_sequence(self):
        for thing in NOT_SEQUENCES + ("barred", "fill"):
            self.spoilt(thing)

    def test_words(self):
        for word in NOT_SEQUENCES + ("", "Barred", "fil", "barred ", b"fill", ("barred",), ["fill"]):
            self.spoilt((word, ((0,), (0,)), ((((),), None),)))
            self.spoilt((word, ()))

    def test_numbers_of_items(self):
        for part in ((), [], ("barred",), ("barred", ((0,), (0,))), ("barred", ((0,), (0,)), ((((),), None),), None), ("fill",),
                     ("fill", (), ())):
            self.spoilt(part)
        self.fault(("fill", REFUSAL[1], None), ())
        self.fault(("fill", REFUSAL[1]) + REFUSAL[1], ())

    def test_cuts(self):
        plan = ((((),), None),)
        for cut in NOT_SEQUENCES + ((), ((0,),), ((0,), (0,), ()), ((1,), (0,)), ((0, 0), (0,)), ((0,), None), ((0,), ((0,),)),
                                    ((True,), (0,)), ((0,), (False,)), ((0.0,), (0,)), ("0", (0,))):
            self.spoilt(("barred", cut, plan))
        for answers, cut in (((1,), ((), (0,))), ((1,), ((0,), (0,)))):
            self.fault(self.with_part(2, ("barred", cut, plan)), answers)

    def test_a_cut_that_is_filled_later(self):
        late = ("fill", ((0, ("barred", ((0,), (0,)), ((((),), None),))), REFUSAL[1][1]))
        self.fault(late, (0,))

    def test_plans(self):
        for plan in NOT_SEQUENCES + ((), ((((0,),), None),), ((((),), 0),), ((((),), None), (((),), False)),
                                     ((((1,),), 0), (((),), None))):
            self.spoilt(("barred", ((0,), (0,)), plan))
        self.fault(self.with_part(0, ("barred", ((0,), (0,)), ((((),), None),) * 300)), None)
        self.fault(self.with_part(0, ("barred", ((0,), (0,)), ((((),), None),) * 301)), (0, 0))
        self.fault(self.with_part(0, ("barred", ((0,), (0,)), (([[0], []], None),))), None)
        self.fault(self.with_part(0, ("barred", ((), ()), ((((),), None),))), (0, 0))

    def test_parts(self):
        part = REFUSAL[1][1]
        for parts in NOT_SEQUENCES + ((), (part,), (REFUSAL[1][0],), REFUSAL[1][::-1], REFUSAL[1] + ((2, part[1]),), (part, part),
                                      (REFUSAL[1][0], (1,)), (REFUSAL[1][0], part + (0,)), (REFUSAL[1][0], None),
                                      (REFUSAL[1][0], (True, part[1])), ((False, REFUSAL[1][0][1]), part),
                                      ((0.0, REFUSAL[1][0][1]), part), (REFUSAL[1][0], (2, part[1]))):
            self.fault(("fill", parts), ())

    def test_fill_where_all_places_are_filled(self):
        barred = REFUSAL[1][0][1][1][0][1]
        self.fault(self.with_part(0, ("fill", ((0, barred), (1, barred)))), (0, 0))
        self.fault(("fill", ()), (), depth=0)
        self.fault(("fill", ((0, barred), (1, barred))), (), depth=0)

    def test_another_barred_cut_is_no_fault(self):
        dead = ((((),), None),)
        self.fault(self.with_part(1, ("barred", ((0,), (0,)), dead)), None)
        self.fault(self.with_part(1, ("barred", [[], [0]], dead)), None)

    def test_fill_where_some_cut_is_barred_is_no_fault(self):
        parts = tuple((answer, ("barred", ((0,), ()), ((((),), None),))) for answer in (0, 1))
        self.fault(("fill", (REFUSAL[1][0], (1, ("fill", parts)))), None)

    def test_the_first_fault(self):
        wrong = ("fill", ((0, ("fill", ((0, None), (1, None)))), (1, None)))
        self.fault(wrong, (0, 0))
        self.fault(("fill", ((0, ("fill", ((0, REFUSAL[1][0][1][1][0][1]), (1, None)))), (1, None))), (0, 1))
        self.fault(("fill", ((0, REFUSAL[1][0][1]), (1, None))), (1,))
        self.fault(("fill", ((0, ("fill", ((0, None), (2, None)))), (1, None))), (0,))
        self.fault(("fill", ((0, ("fill", ((0, None), (1, None)))), (2, None))), ())

    def test_where_some_filling_is_had(self):
        """No refusal has no fault there, whatever it is."""
        for sample in full_samples(294, 60):
            if full_wish(*sample) is not None:
                self.assertIsNot(full_refusal_fault(*sample, REFUSAL), None)
                book, past, hands, depth = sample
                deep = ("fill", [])
                for _ in range(len(plain_places(book, hands, depth)) + 1):
                    deep = ("fill", [(answer, deep) for answer in book.answers])
                first = full_refusal_fault(*sample, deep)
                self.assertSame(first, (book.answers[0],) * len(plain_places(book, hands, depth)))
        self.fault(REFUSAL, (0, 1), book=Book(2, 1, ((0, 0, 0, 1), (0, 0, 1, 1), (1, 0, 1, 0))))
        self.fault(REFUSAL, (0, 0), book=full_book(1, 1).without_way((0, 0, 2, 0)))

    def test_one_answer_and_other_answers(self):
        self.fault(REFUSAL, (), book=least_book(1, 1))
        self.fault(REFUSAL, (), book=Book(2, 1, ((0, 0, 0, 1), (1, 0, 2, 0))))
        self.fault(REFUSAL, (), book=full_book(1, 1))

    def test_other_pasts(self):
        self.assertIsNot(full_refusal_fault(counter(), ((0, 0, 0),), 2, 1, REFUSAL), None)
        self.assertIs(full_refusal_fault(counter(), ((0, 0, 0), (9, 0, 1)), 2, 1, REFUSAL), None)
        self.assertIs(full_refusal_fault(counter(), (), 2, 2, REFUSAL), None)
        self.assertSame(full_refusal_fault(counter(), (), 1, 1, REFUSAL), (0,))
        self.assertSame(full_refusal_fault(counter(), (), 3, 1, REFUSAL), (0, 0))

    def test_spoilt_refusals(self):
        dice = random.Random(295)
        faults = {}
        for sample in refused_samples(295, 400):
            refusal = full_refusal(*sample)
            for _ in range(6):
                changed = self.spoil(dice, refusal)
                wanted = plain_refusal_fault(*sample, changed)
                self.assertSame(full_refusal_fault(*sample, changed), wanted)
                self.assertSame(full_refusal_fault(*sample, as_lists(changed)), wanted)
                length = None if wanted is None else len(wanted)
                faults[length] = faults.get(length, 0) + 1
        self.assertTrue({None, 0, 1, 2, 3} <= set(faults), faults)

    def spoil(self, dice, refusal):
        """The refusal with a change at one place."""
        if refusal[0] == "fill" and dice.randrange(5) > 0:
            parts = list(refusal[1])
            at = dice.randrange(len(parts))
            parts[at] = (parts[at][0], self.spoil(dice, parts[at][1]))
            return ("fill", tuple(parts))
        if refusal[0] == "fill":
            parts = list(refusal[1])
            at = dice.randrange(len(parts))
            return dice.choice((("fill", tuple(parts[:at] + parts[at + 1:])), ("fill", tuple(parts[::-1])),
                                ("fill", tuple(parts[:at] + [(dice.randrange(3), parts[at][1])] + parts[at + 1:])),
                                ("barred",) + refusal[1:], refusal + (None,), parts[at][1], ("fill", (parts[at],) * len(parts))))
        cut = list(refusal[1])
        at = dice.randrange(len(cut))
        cut[at] = dice.choice((cut[at][:-1], cut[at] + (0,), (dice.randrange(2),), (), None))
        return dice.choice((("barred", tuple(cut), refusal[2]), ("barred", tuple(cut), refusal[2]), ("fill",) + refusal[2:],
                            ("barred", refusal[1], refusal[2][:-1]), ("barred", refusal[1], refusal[2] * 2),
                            refusal[:2], None, ("barred", refusal[1], refusal[2][1:])))

    def test_what_is_passed_stays(self):
        refusal = as_lists(REFUSAL)
        full_refusal_fault(counter(), [], 2, 1, refusal)
        self.assertSame(refusal, as_lists(REFUSAL))


class TestDeepest(Case):

    def test_example(self):
        self.assertSame(deepest(counter(), (), 2, 2), 0)
        self.assertSame(deepest(counter(), (), 1, 3), 3)

    def test_most(self):
        for most in range(4):
            self.assertSame(deepest(least_book(1, 1), (), 3, most), most)
        self.assertSame(deepest(counter(), (), 2, 0), 0)

    def test_against_all_depths(self):
        found = set()
        for book, past, hands, most in full_samples(296, 600):
            wanted = max(depth for depth in range(most + 1) if full_wish(book, past, hands, depth) is not None)
            self.assertSame(deepest(book, past, hands, most), wanted)
            self.assertSame(deepest(book, as_lists(past), hands, most), wanted)
            found.add((wanted, most))
        self.assertTrue({(0, 0), (0, 1), (0, 2), (1, 1), (1, 2), (2, 2), (1, 3), (3, 3)} <= found, found)


class TestWhatIsKept(Case):
    """[8.6] and [8.8]."""

    def test_none_exactly_if_there_is_a_refusal(self):
        for sample in full_samples(297, 80):
            scripts = full_wish(*sample)
            try:
                refusal = full_refusal(*sample)
            except HasFull as error:
                self.assertSame(error.scripts, scripts)
                self.assertIsNot(scripts, None)
                self.assertEqual(list(vars(error)), ["scripts"])
            else:
                self.assertIs(scripts, None)
                self.assertIs(full_refusal_fault(*sample, refusal), None)

    def test_lesser_depths_and_fewer_hands(self):
        tried = 0
        for book, past, hands, depth in full_samples(298, 120):
            if full_wish(book, past, hands, depth) is not None:
                for fewer, less in product(range(1, hands + 1), range(depth + 1)):
                    self.assertIsNot(full_wish(book, past, fewer, less), None)
                    tried += (fewer, less) != (hands, depth)
        self.assertGreater(tried, 150)

    def test_looser_books(self):
        dice = random.Random(299)
        tried = 0
        for book, past, hands, depth in full_samples(299, 120, 70):
            if full_wish(book, past, hands, depth) is not None:
                missing = [way for way in product(range(book.states), range(book.calls), book.answers, range(book.states))
                           if way not in book]
                for way in dice.sample(missing, min(2, len(missing))):
                    self.assertIs(looser_fault(book, book.with_way(way)), None)
                    self.assertIsNot(full_wish(book.with_way(way), past, hands, depth), None)
                    tried += 1
        self.assertIsNot(full_wish(Book(1, 1, ((0, 0, 0, 0), (0, 0, 1, 0))), (), 2, 1), None)
        self.assertGreater(tried, 80)

    def test_a_looser_book_with_other_states(self):
        one = Book(2, 1, ((0, 0, 0, 1), (1, 0, 0, 0), (1, 0, 1, 0)))
        other = Book(1, 1, ((0, 0, 0, 0), (0, 0, 1, 0)))
        self.assertIs(looser_fault(one, other), None)
        for hands, depth in product((1, 2, 3), (0, 1, 2)):
            if full_wish(one, (), hands, depth) is not None:
                self.assertIsNot(full_wish(other, (), hands, depth), None)

    def test_rows_taken_away(self):
        dice = random.Random(300)
        tried = 0
        for book, past, hands, depth in full_samples(300, 120):
            scripts = full_wish(book, past, hands, depth)
            if scripts is not None:
                for _ in range(3):
                    less = [self.thinned(dice, script) for script in scripts]
                    self.assertIs(is_had(Wish(book, past, less)), True)
                    tried += tuple(less) != scripts
        self.assertGreater(tried, 100)

    def thinned(self, dice, script):
        """The script without some of its rows."""
        return tuple((call, answer, self.thinned(dice, behind)) for call, answer, behind in script if dice.randrange(3))

    def test_rows_put_to_scripts_leave_a_wish_barred(self):
        for sample in refused_samples(301, 60):
            book, past, hands, depth = sample
            places = plain_places(book, hands, depth)
            for answers in list(product(book.answers, repeat=len(places)))[::3]:
                self.assertIs(is_had(filled_wish(book, past, hands, places, answers)), False)
