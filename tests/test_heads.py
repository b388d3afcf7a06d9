"""[7.1] to [7.8]."""

import random
from itertools import combinations, product

from tests.helper import (NOT_NUMBERS, NOT_SEQUENCES, Case, as_lists, cuts_in, drawn_books, free_look, full_book,
                          likely_script, mixed_forms, plain_books, plain_entries, plain_joint, plain_reached, plain_safe,
                          set_and_look, toss_and_show, walk_ends)
from unmetcells.books import Book
from unmetcells.cuts import cut_size, cuts_of, heads_at
from unmetcells.errors import BadCall, BadState, NoTurn, NotPlain
from unmetcells.foes import is_had, wish_fault
from unmetcells.heads import Clash, heads_fault, pass_at, passing_calls, plain_state
from unmetcells.likeness import parted_by
from unmetcells.scripts import Wish
from unmetcells.standings import is_plain, is_right

# Call 0 goes round three states, call 1 leads to state 1 from everywhere, call 2 answers whether the state is 2.
ROUND = Book(3, 3, [(state, 0, 0, (state + 1) % 3) for state in range(3)] + [(state, 1, 0, 1) for state in range(3)]
             + [(state, 2, int(state == 2), state) for state in range(3)])


def plain_wishes(seed, many):
    """So many wishes over plain books in which each hand alone mostly hears its script; some are had."""
    dice = random.Random(seed)
    wishes = []
    for book in plain_books(seed, 6 * many, 5):
        past, ends = (), (0,)
        for _ in range(dice.choice((0, 0, 1, 3))):
            way = dice.choice([way for way in book if way[0] in ends])
            past, ends = past + ((dice.randrange(10),) + way[1:3],), (way[3],)
        scripts = [likely_script(dice, book, ends, dice.choice((1, 2, 2, 3))) for _ in range(dice.choice((1, 2, 2, 2, 3)))]
        if dice.randrange(5) == 0:
            scripts = [tuple((call, dice.choice((answer, answer, dice.randrange(3))), behind) for call, answer, behind in script)
                       for script in scripts]
        if 1 < cuts_in(scripts) <= 100 and len(wishes) < many:
            wishes.append(Wish(book, past, scripts))
    return wishes


def follows(book, state, calls):
    """The answers that a plain book gives a row of calls from a state."""
    answers = []
    for call in calls:
        answer, state = [way[2:] for way in book if way[:2] == (state, call)][0]
        answers.append(answer)
    return answers


def are_alike(book, one, other):
    """Tell whether two states of a plain book give all rows of calls the same answers; 4 calls are enough for 5 states."""
    return all(follows(book, one, row) == follows(book, other, row) for row in product(range(book.calls), repeat=book.states - 1))


def walk(book, state, couples):
    """The state behind couples (call, answer), or None if they cannot be had."""
    ends = walk_ends(book, (state,), couples)
    return ends[0] if ends else None


def row_of(wish, cut):
    """The past and the turns of a cut, hand after hand."""
    return wish.past + tuple(entry for hand, turn in enumerate(cut) for entry in plain_entries(wish.scripts[hand], hand, turn))


def plain_clash(wish):
    """What clashes first, cut by cut: all but the trail."""
    for cut in cuts_of(wish):
        state = walk(wish.book, 0, [entry[1:] for entry in row_of(wish, cut)])
        heads = heads_at(wish, cut)
        for head in heads:
            if walk(wish.book, state, [head[1:]]) is None:
                return cut, (head,), "answer"
        for one, other in combinations(heads, 2):
            ends = {walk(wish.book, state, [one[1:], other[1:]]), walk(wish.book, state, [other[1:], one[1:]])}
            if one[0] != other[0] and None not in ends and not are_alike(wish.book, min(ends), max(ends)):
                return cut, (one, other), "ends"
    return None


class TestPlainState(Case):

    def test_example(self):
        wish = Wish(set_and_look(), (), (((0, 0, ()),), ((1, 0, ()),)))
        for cut, state in ((((), ()), 0), (((0,), ()), 1), (((), (1,)), 0), (((0,), (1,)), None)):
            for form in mixed_forms(cut):
                self.assertSame(plain_state(wish, form), state)
        self.assertSame(plain_state(Wish(set_and_look(), ((0, 0, 0),), ((),)), ((),)), 1)

    def test_hand_after_hand(self):
        wish = Wish(ROUND, (), (((0, 0, ((1, 0, ((0, 0, ()),)),)),), ((1, 0, ()),), ((0, 0, ()),)))
        for cut, state in ((((0,), (), ()), 1), (((0, 1, 0), (), ()), 2), (((0, 1, 0), (1,), ()), 1), (((0,), (), (0,)), 2),
                           (((0, 1, 0), (1,), (0,)), 2), (((), (1,), (0,)), 2)):
            self.assertSame(plain_state(wish, cut), state)

    def test_against_walks(self):
        found = set()
        for wish in plain_wishes(231, 60):
            for cut in cuts_of(wish):
                state = walk(wish.book, 0, [entry[1:] for entry in row_of(wish, cut)])
                self.assertSame(plain_state(wish, cut), state)
                self.assertSame(plain_state(wish, as_lists(cut)), state)
                found.add(state is None)
            self.assertIs(is_right(wish.book, wish.past), True)
            self.assertSame(plain_state(wish, ((),) * len(wish.scripts)), walk(wish.book, 0, [entry[1:] for entry in wish.past]))
        self.assertEqual(found, {True, False})

    def test_not_plain_comes_first(self):
        for book in (toss_and_show(), free_look(), full_book(2, 2)):
            wish = Wish(book, (), ((), ((0, 0, ()),)))
            for cut in (((), ()), None, ((1,), ()), ((), (), ())):
                self.refuses(NotPlain, {}, plain_state, wish, cut)

    def test_no_turn(self):
        wish = Wish(set_and_look(), (), (((0, 0, ()),), ((1, 0, ()),)))
        for thing in NOT_SEQUENCES + ((), [], (None, ())):
            self.refuses(NoTurn, {"hand": 0}, plain_state, wish, thing)
        for thing in NOT_SEQUENCES + ((0,), [1, 1], [(1,)]):
            self.refuses(NoTurn, {"hand": 1}, plain_state, wish, ((0,), thing))
        for call in NOT_NUMBERS + (1, -1):
            self.refuses(NoTurn, {"hand": 0}, plain_state, wish, ((call,), None))
        self.refuses(NoTurn, {"hand": 1}, plain_state, wish, ((),))
        self.refuses(NoTurn, {"hand": 2}, plain_state, wish, ((), (), ()))

    def test_the_cut_stays(self):
        wish, cut = Wish(set_and_look(), (), (((0, 0, ()),), ((1, 0, ()),))), [[0], [1]]
        plain_state(wish, cut)
        self.assertSame(cut, [[0], [1]])


class TestHeadsFault(Case):

    def clash(self, wish, *told):
        found = heads_fault(wish)
        self.assertEqual(found, Clash(*told))
        self.assertSame(tuple(vars(found).values()), told)
        self.assertTuples(told)

    def test_example(self):
        self.clash(Wish(set_and_look(), (), (((0, 0, ()),), ((1, 0, ()),))), ((0,), ()), ((1, 1, 0),), "answer", ())
        self.assertIs(heads_fault(Wish(set_and_look(), ((0, 0, 0),), (((0, 0, ()),), ((1, 1, ()),)))), None)

    def test_answer(self):
        self.clash(Wish(set_and_look(), (), (((1, 1, ()),), ((1, 1, ()),))), ((), ()), ((0, 1, 1),), "answer", ())
        self.clash(Wish(set_and_look(), (), (((0, 0, ()),), ((1, 2, ()),))), ((), ()), ((1, 1, 2),), "answer", ())
        self.clash(Wish(set_and_look(), (), (((0, 0, ((0, 1, ()), (1, 0, ()))),),)), ((0,),), ((0, 0, 1),), "answer", ())

    def test_ends(self):
        wish = Wish(ROUND, (), (((0, 0, ()),), ((1, 0, ()),)))
        self.clash(wish, ((), ()), ((0, 0, 0), (1, 1, 0)), "ends", ((2, 0),))
        turned = Wish(ROUND, ((3, 0, 0), (3, 0, 0)), (((1, 0, ()),), ((0, 0, ()),)))
        self.clash(turned, ((), ()), ((0, 1, 0), (1, 0, 0)), "ends", ((2, 0),))
        last = Wish(ROUND, (), (((2, 0, ((0, 0, ()),)),), ((1, 0, ()),)))
        self.clash(last, ((2,), ()), ((0, 0, 0), (1, 1, 0)), "ends", ((2, 0),))

    def test_heads_of_three_hands_at_one_cut(self):
        both = ((0, 0, ()), (1, 0, ()))
        self.clash(Wish(ROUND, (), (both, both, both)), ((), (), ()), ((0, 0, 0), (1, 1, 0)), "ends", ((2, 0),))
        self.clash(Wish(ROUND, (), (((1, 0, ()),), ((1, 0, ()),), both)), ((), (), ()), ((0, 1, 0), (2, 0, 0)), "ends", ((2, 0),))
        self.clash(Wish(ROUND, (), (((2, 0, ()),), ((1, 0, ()),), both)), ((), (), ()), ((1, 1, 0), (2, 0, 0)), "ends", ((2, 0),))
        self.clash(Wish(ROUND, (), (both, both, ((2, 1, ()),))), ((), (), ()), ((2, 2, 1),), "answer", ())
        self.assertIs(heads_fault(Wish(ROUND, (), (((0, 0, ()),), ((0, 0, ()),), ((0, 0, ()),)))), None)

    def test_two_heads_of_one_hand_do_not_clash(self):
        self.assertIs(heads_fault(Wish(ROUND, (), (((0, 0, ()), (1, 0, ())), (), ()))), None)

    def test_an_order_that_cannot_be_had_does_not_clash(self):
        look = Wish(ROUND, ((0, 0, 0),), (((0, 0, ()),), ((2, 0, ()),)))
        self.clash(look, ((0,), ()), ((1, 2, 0),), "answer", ())
        for one, other in combinations(heads_at(look, ((), ())), 2):
            self.assertIs(walk(ROUND, 1, [one[1:], other[1:]]), None)

    def test_alike_ends_do_not_clash(self):
        book = Book(3, 2, ((0, 0, 0, 1), (0, 1, 0, 2), (1, 0, 0, 1), (1, 1, 0, 1), (2, 0, 0, 2), (2, 1, 0, 2)))
        wish = Wish(book, (), (((0, 0, ()),), ((1, 0, ()),)))
        self.assertNotEqual(walk(book, 0, [(0, 0), (1, 0)]), walk(book, 0, [(1, 0), (0, 0)]))
        self.assertIs(heads_fault(wish), None)

    def test_against_a_plain_search(self):
        words = {}
        for wish in plain_wishes(232, 400):
            found, wanted = heads_fault(wish), plain_clash(wish)
            if wanted is None:
                self.assertIs(found, None)
            else:
                self.assertSame((found.cut, found.heads, found.what), wanted)
                self.assertTuples((found.cut, found.heads, found.what, found.trail))
            word = None if wanted is None else wanted[2]
            words[word] = words.get(word, 0) + 1
            if word == "ends":
                one, other = found.heads
                state = plain_state(wish, found.cut)
                ends = [walk(wish.book, state, pair) for pair in ([one[1:], other[1:]], [other[1:], one[1:]])]
                self.assertSame(found.trail, parted_by(wish.book, (ends[0],), (ends[1],)))
            elif wanted:
                self.assertSame(found.trail, ())
        self.assertGreater(min(words.get(word, 0) for word in (None, "answer", "ends")), 20, words)

    def test_not_plain(self):
        for book in (toss_and_show(), free_look(), full_book(2, 2)):
            self.refuses(NotPlain, {}, heads_fault, Wish(book, (), (((0, 2, ()),), ((0, 0, ()),))))

    def test_bare_scripts(self):
        for book in plain_books(233, 10):
            self.assertIs(heads_fault(Wish(book, (), ((), (), ()))), None)

    def test_result(self):
        self.isResult(Clash, "cut", "heads", "what", "trail")

    def test_the_wish_stays(self):
        wish = Wish(ROUND, (), (((0, 0, ()),), ((1, 0, ()),)))
        heads_fault(wish)
        self.assertEqual(wish, Wish(ROUND, (), (((0, 0, ()),), ((1, 0, ()),))))


class TestWhatHolds(Case):
    """[7.4] and [7.5]."""

    def test_had_exactly_if_nothing_clashes(self):
        found = {True: 0, False: 0}
        for wish in plain_wishes(234, 300):
            fault = heads_fault(wish)
            self.assertIs(is_had(wish), fault is None)
            found[fault is None] += 1
        self.assertGreater(min(found.values()), 80)

    def test_against_the_joints_of_all_cuts(self):
        found = set()
        for wish in plain_wishes(235, 80):
            joints = [plain_joint(wish, cut) for cut in cuts_of(wish)]
            safe = [joint in plain_safe(plain_reached(wish.book, joint)) for joint in joints]
            self.assertIs(heads_fault(wish) is None, all(safe))
            for joint, good in zip(joints, safe):
                self.assertTrue(all(len(standing) < 2 for standing in joint))
                states = [standing[0] for standing in joint if standing]
                alike = all(are_alike(wish.book, one, other) for one, other in combinations(states, 2))
                self.assertIs(good, () not in joint and alike)
                found.add((good, len(joint) > 1))
        self.assertEqual(found, set(product((True, False), repeat=2)))

    def test_all_weavings_end_in_alike_states_if_nothing_clashes(self):
        for wish in plain_wishes(236, 120):
            if heads_fault(wish) is None:
                for cut in cuts_of(wish):
                    state = plain_state(wish, cut)
                    for standing in plain_joint(wish, cut):
                        self.assertEqual(len(standing), 1)
                        self.assertTrue(are_alike(wish.book, state, standing[0]))

    def test_the_first_barred_cut(self):
        """[7.5]."""
        sizes = set()
        for wish in plain_wishes(237, 400):
            clash = heads_fault(wish)
            if clash is not None:
                calls = cut_size(clash.cut)
                wrong = False
                for cut in [cut for cut in cuts_of(wish) if cut_size(cut) == calls]:
                    for head in heads_at(wish, cut):
                        wrong = wrong or walk(wish.book, plain_state(wish, cut), [head[1:]]) is None
                self.assertEqual(cut_size(wish_fault(wish).cut), calls + (1 if wrong else 2))
                sizes.add((clash.what, wrong))
        self.assertEqual(sizes, {("answer", True), ("ends", False), ("ends", True)})

    def test_histories_show_a_clash_of_ends(self):
        tried = 0
        for wish in plain_wishes(238, 300):
            clash = heads_fault(wish)
            if clash is not None and clash.what == "ends":
                one, other = clash.heads
                trail = tuple((9,) + couple for couple in clash.trail)
                row = row_of(wish, clash.cut)
                rows = [row + (one, other), row + (other, one)]
                self.assertEqual([is_right(wish.book, found) for found in rows], [True, True])
                self.assertEqual(sorted(is_right(wish.book, found + trail) for found in rows), [False, True])
                tried += 1
        self.assertGreater(tried, 20)


class TestPassAt(Case):

    def test_samples(self):
        self.assertIs(pass_at(ROUND, 0, 0, 1), False)
        self.assertIs(pass_at(ROUND, 1, 0, 2), False)
        self.assertIs(pass_at(ROUND, 0, 0, 2), True)
        self.assertIs(pass_at(ROUND, 2, 2, 2), True)
        self.assertIs(pass_at(set_and_look(), 0, 0, 1), False)
        self.assertIs(pass_at(set_and_look(), 1, 0, 1), True)

    def test_a_call_with_itself(self):
        found = set()
        for book in plain_books(239, 60):
            for state, call in product(range(book.states), range(book.calls)):
                twice = follows(book, state, (call, call))
                self.assertIs(pass_at(book, state, call, call), twice[0] == twice[1])
                found.add(twice[0] == twice[1])
        self.assertEqual(found, {True, False})

    def test_against_walks(self):
        found = {True: 0, False: 0}
        for book in plain_books(240, 80, 5):
            for state, one, other in product(range(book.states), range(book.calls), range(book.calls)):
                couples = [(one, follows(book, state, (one,))[0]), (other, follows(book, state, (other,))[0])]
                ends = [walk(book, state, couples), walk(book, state, couples[::-1])]
                wanted = None not in ends and are_alike(book, *ends)
                self.assertIs(pass_at(book, state, one, other), wanted)
                found[wanted] += 1
        self.assertGreater(min(found.values()), 100)

    def test_states_that_no_walk_reaches(self):
        book = Book(3, 2, ((0, 0, 0, 0), (0, 1, 0, 0), (1, 0, 0, 2), (1, 1, 0, 1), (2, 0, 1, 2), (2, 1, 1, 2)))
        self.assertIs(pass_at(book, 0, 0, 1), True)
        self.assertIs(pass_at(book, 1, 0, 1), False)
        self.assertIs(pass_at(book, 2, 0, 1), True)
        self.assertSame(passing_calls(book), ((0, 0), (0, 1), (1, 1)))

    def test_errors(self):
        for book in (toss_and_show(), free_look()):
            for state in (0, 9, None):
                self.refuses(NotPlain, {}, pass_at, book, state, 9, 9)
        for state in NOT_NUMBERS + (3, -1, 10 ** 100):
            with self.assertRaises(BadState) as caught:
                pass_at(ROUND, state, 9, None)
            self.assertIs(caught.exception.state, state)
            self.assertEqual(list(vars(caught.exception)), ["state"])
        for call in NOT_NUMBERS + (3, -1, 10 ** 100):
            self.refuses(BadCall, {}, pass_at, ROUND, 0, call, 0)
            self.refuses(BadCall, {}, pass_at, ROUND, 0, 0, call)


class TestPassingCalls(Case):

    def test_example(self):
        self.assertSame(passing_calls(set_and_look()), ((0, 0), (1, 1)))
        self.assertSame(passing_calls(ROUND), ((0, 0), (1, 1), (2, 2)))

    def test_against_all_reached_states(self):
        many = 0
        for book in plain_books(241, 150, 5, 4):
            reached = {0}
            for _ in range(book.states):
                reached |= {way[3] for way in book if way[0] in reached}
            wanted = tuple((one, other) for one in range(book.calls) for other in range(one, book.calls)
                           if all(pass_at(book, state, one, other) for state in reached))
            self.assertSame(passing_calls(book), wanted)
            self.assertTuples(passing_calls(book))
            many += any(one != other for one, other in wanted) and len(reached) < book.states
        self.assertGreater(many, 10)

    def test_not_plain(self):
        for book in drawn_books(242, 40, 3, 3):
            if not is_plain(book):
                self.refuses(NotPlain, {}, passing_calls, book)
        self.refuses(NotPlain, {}, passing_calls, toss_and_show())

    def test_calls_that_pass_make_wishes_that_are_had(self):
        """[7.7], the last sentence."""
        tried, all_had = 0, 0
        for wish in plain_wishes(243, 600):
            passing = set(passing_calls(wish.book))
            used = [{call for row in script for call in self.calls_in(row)} for script in wish.scripts]
            pairs = [tuple(sorted(pair)) for one, other in combinations(used, 2) for pair in product(one, other)]
            alone = [is_had(Wish(wish.book, wish.past, (script,))) for script in wish.scripts]
            if len(pairs) > 0 and all(pair in passing for pair in pairs) and all(alone):
                self.assertIs(is_had(wish), True)
                tried += 1
            all_had += is_had(wish)
        self.assertGreater(tried, 20)
        self.assertGreater(all_had, tried)

    def calls_in(self, row):
        """All calls of a row and of the script behind it."""
        found = {row[0]}
        for behind in row[2]:
            found |= self.calls_in(behind)
        return found
