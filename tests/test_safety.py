"""[4.1] to [4.6], of [4.9] what it says of safe joints and ranks, and of [4.11] what it says of them and of lots."""

import random
from itertools import permutations, product

from tests.helper import (NOT_NUMBERS, NOT_SEQUENCES, Case, all_standings, as_lists, drawn_books, drawn_joints, full_book,
                          least_book, likely_wishes, mixed_forms, plain_onward, plain_ranks, plain_reached, plain_safe,
                          plain_trimmed, set_and_look, toss_and_show, walk_ends)
from tests.test_joints import NOT_JOINTS
from unmetcells.books import Book
from unmetcells.errors import BadCall, BadCalls, BadJoint, BadLot, BadMost, NotSafe, TooMany
from unmetcells.joints import joints_of
from unmetcells.safety import (is_safe, joints_from, kept_answer, kept_lot, kept_run, lot_fault, rank_of, safe_joints)

DEAD = ((),)
TOSSED = ((1,), (2,))

# Two books with a joint each, from which exactly 300 and exactly 301 joints are reached.
REACHES_300 = (Book(6, 4, (
    (0, 0, 0, 5), (0, 1, 0, 4), (0, 2, 0, 0), (0, 3, 0, 5), (1, 0, 0, 1), (1, 1, 0, 1), (1, 2, 0, 1), (1, 3, 0, 5), (2, 0, 0, 3),
    (2, 1, 0, 2), (2, 2, 0, 2), (2, 3, 0, 2), (3, 0, 0, 0), (3, 1, 0, 3), (3, 2, 0, 3), (3, 3, 0, 5), (4, 0, 0, 4), (4, 1, 0, 0),
    (4, 2, 0, 5), (4, 3, 0, 3), (5, 0, 0, 2), (5, 1, 0, 5), (5, 2, 0, 4), (5, 3, 0, 1), (5, 3, 0, 3))), ((0, 5), (2, 5), (3, 5)))
REACHES_301 = (Book(6, 4, (
    (0, 0, 0, 3), (0, 1, 0, 3), (0, 2, 0, 4), (0, 3, 0, 0), (1, 0, 0, 1), (1, 1, 0, 1), (1, 2, 0, 5), (1, 3, 0, 1), (2, 0, 0, 2),
    (2, 1, 0, 0), (2, 2, 0, 3), (2, 3, 0, 4), (3, 0, 0, 0), (3, 1, 0, 5), (3, 2, 0, 1), (3, 3, 0, 3), (4, 0, 0, 4), (4, 1, 0, 0),
    (4, 2, 0, 2), (4, 3, 0, 2), (5, 0, 0, 5), (5, 1, 0, 2), (5, 2, 0, 3), (5, 2, 0, 5), (5, 3, 0, 5))),
    ((1, 3, 5), (1, 4, 5), (3, 4, 5)))

# All functions of a book and a joint, with arguments that are to be passed behind them.
ASKS = ((joints_from, ()), (is_safe, ()), (safe_joints, ()), (rank_of, ()), (kept_answer, (0,)), (kept_run, ((0,),)),
        (kept_run, ((),)), (kept_lot, ()))


def loose_toss():
    """Toss and show with one way more, with which the joint of [4.11] is safe."""
    return toss_and_show().with_way((1, 1, 1, 1))


def exchanges(states, many):
    """A book whose calls exchange each state with the next one, or all states round; all answers are 0."""
    ways = []
    for state in range(states):
        for call in range(many):
            ways.append((state, call, 0, {call: call + 1, call + 1: call}.get(state, state)))
        ways.append((state, many, 0, (state + 1) % states))
    return Book(states, many + 1, ways)


def countdown(states):
    """A book in which a call goes down from state to state, and then answers otherwise."""
    ways = [(state, 0, 0, state - 1) for state in range(1, states)] + [(0, 0, 1, 0)]
    return Book(states, 1, ways)


def samples(seed, many):
    """Joints that are safe or barred, with all that is found out about them by plain searches."""
    for book, joint in drawn_joints(seed, many) + barred_joints(seed):
        table = plain_reached(book, joint)
        yield book, joint, table, plain_safe(table), plain_ranks(table)


def barred_joints(seed):
    """Joints at cuts of wishes in small books; many of them are barred, but alive."""
    found = {}
    for wish in likely_wishes(seed, 150):
        for cut, joint in joints_of(wish):
            if len(joint) > 1:
                found[(wish.book.ways, joint)] = (wish.book, joint)
    return list(found.values())


class TestJointsFrom(Case):

    def test_example(self):
        self.assertSame(joints_from(toss_and_show(), TOSSED), (DEAD, ((1,),), TOSSED, ((2,),)))
        self.assertSame(joints_from(toss_and_show(), DEAD), (DEAD,))
        self.assertSame(joints_from(full_book(1, 1), ((0,),)), (((0,),),))

    def test_against_a_closing_of_its_own(self):
        dead = 0
        for book, joint, table, _, _ in samples(111, 150):
            for form in mixed_forms(joint):
                self.assertSame(joints_from(book, form), tuple(sorted(table)))
            dead += DEAD in table
        self.assertGreater(dead, 50)

    def test_answers_that_no_way_bears_do_not_count(self):
        self.assertSame(joints_from(least_book(2, 1), ((0, 1),)), (((0,),), ((0, 1),)))
        self.assertSame(joints_from(full_book(2, 2), ((1,),)), (((0, 1),), ((1,),)))

    def test_most(self):
        for book, joint in drawn_joints(112, 60):
            found = joints_from(book, joint)
            for most in {1, len(found) - 1, len(found), len(found) + 1, 300} - {0}:
                if len(found) <= most:
                    self.assertSame(joints_from(book, joint, most), found)
                    self.assertSame(joints_from(book, joint, most=most), found)
                else:
                    self.refuses(TooMany, {"most": most}, joints_from, book, joint, most)

    def test_300_and_more(self):
        book = exchanges(6, 2)
        few = [((0, 1), (2, 3)), ((0, 1, 2),), ((0, 1), (1, 2))]
        for joint in few:
            self.assertSame(joints_from(book, joint), tuple(sorted(plain_reached(book, joint))))
        many = ((0, 1), (1, 2), (2, 3, 4))
        self.assertEqual(len(plain_reached(book, many)), 360)
        self.refuses(TooMany, {"most": 300}, joints_from, book, many)
        self.refuses(TooMany, {"most": 300}, joints_from, book, many, 300)
        self.refuses(TooMany, {"most": 1}, joints_from, book, many, 1)

    def test_exactly_300_and_301(self):
        self.assertEqual(len(plain_reached(*REACHES_300)), 300)
        self.assertSame(joints_from(*REACHES_300), tuple(sorted(plain_reached(*REACHES_300))))
        self.refuses(TooMany, {"most": 299}, joints_from, *REACHES_300, 299)
        self.assertEqual(len(plain_reached(*REACHES_301)), 301)
        self.refuses(TooMany, {"most": 300}, joints_from, *REACHES_301)

    def test_bad_most(self):
        for most in NOT_NUMBERS + (0, 301, -1, 10 ** 100):
            with self.assertRaises(BadMost) as caught:
                joints_from(toss_and_show(), ((0,),), most)
            self.assertIs(caught.exception.most, most)
            self.refuses(BadJoint, {}, joints_from, toss_and_show(), (), most)
        self.refuses(BadMost, {"most": 0}, joints_from, exchanges(6, 2), ((0, 1), (1, 2), (2, 3, 4)), 0)

    def test_at_most_231_with_4_states(self):
        for book, joint in drawn_joints(114, 300):
            self.assertLessEqual(len(joints_from(book, joint)), (3, 6, 21, 231)[book.states - 1])


class TestErrors(Case):

    def test_bad_joint_comes_first(self):
        for ask, more in ASKS:
            for thing in NOT_JOINTS:
                self.refuses(BadJoint, {}, ask, toss_and_show(), thing, *more)
        for thing in NOT_JOINTS:
            self.refuses(BadJoint, {}, kept_answer, toss_and_show(), thing, 9)
            self.refuses(BadJoint, {}, kept_run, toss_and_show(), thing, None)
            self.refuses(BadJoint, {}, lot_fault, toss_and_show(), thing, None)

    def test_too_many_joints(self):
        for ask, more in ASKS:
            self.refuses(TooMany, {"most": 300}, ask, exchanges(6, 2), ((2, 3, 4), (1, 2), (0, 1)), *more)
            self.refuses(TooMany, {"most": 300}, ask, *REACHES_301, *more)
        self.assertIs(is_safe(*REACHES_300), True)
        self.assertSame(safe_joints(*REACHES_300), joints_from(*REACHES_300))

    def test_too_many_even_if_the_joint_is_plainly_barred(self):
        book = Book(6, 4, exchanges(6, 2).ways + tuple((state, 3, state % 2, state) for state in range(6)))
        joint = ((0,), (1, 3), (2, 3, 4))
        self.assertGreater(len(plain_reached(book, joint)), 300)
        for ask, more in ASKS:
            self.refuses(TooMany, {"most": 300}, ask, book, joint, *more)

    def test_what_is_passed_stays(self):
        joint, lot, calls = [[1, 2], [1]], [[[2], [1]], [[1]]], [0, 1, 0]
        for ask in (joints_from, is_safe, safe_joints, rank_of, kept_lot):
            ask(loose_toss(), joint)
        kept_run(loose_toss(), joint, calls)
        lot_fault(loose_toss(), joint, lot)
        self.assertSame((joint, lot, calls), ([[1, 2], [1]], [[[2], [1]], [[1]]], [0, 1, 0]))


class TestSafe(Case):

    def test_example(self):
        for form in mixed_forms(TOSSED):
            self.assertIs(is_safe(toss_and_show(), form), False)
            self.assertIs(is_safe(loose_toss(), form), True)
            self.assertSame(safe_joints(toss_and_show(), form), (((1,),), ((2,),)))
            self.assertSame(safe_joints(loose_toss(), form), (((1,),), TOSSED, ((2,),)))

    def test_dead_joint(self):
        for book in (toss_and_show(), full_book(6, 4), least_book(1, 1)):
            for form in (DEAD, [[]], ((0,), ())):
                self.assertIs(is_safe(book, form), False)
                self.assertSame(safe_joints(book, form), ())
                self.assertSame(rank_of(book, form), 0)

    def test_against_the_greatest_lot(self):
        found = []
        for book, joint, table, lot, _ in samples(115, 150):
            for form in (joint, as_lists(joint), tuple(joint[::-1])):
                self.assertIs(is_safe(book, form), plain_trimmed(joint) in lot)
                self.assertSame(safe_joints(book, form), tuple(sorted(lot)))
            self.assertTuples(safe_joints(book, joint))
            found.append(plain_trimmed(joint) in lot)
        self.assertGreater(found.count(True), 50)
        self.assertGreater(found.count(False), 40)

    def test_safe_for_a_while_is_not_safe(self):
        for steps in range(2, 7):
            self.assertIs(is_safe(countdown(steps), ((steps - 1,),)), True)
            self.assertIs(is_safe(countdown(steps), ((steps - 2,), (steps - 1,))), False)
            self.assertSame(rank_of(countdown(steps), ((steps - 2,), (steps - 1,))), steps - 1)

    def test_one_answer_for_all_standings(self):
        book = Book(2, 1, ((0, 0, 0, 0), (0, 0, 1, 0), (1, 0, 1, 1)))
        self.assertIs(is_safe(book, ((0,), (1,))), True)
        self.assertSame(kept_answer(book, ((0,), (1,)), 0), 1)
        self.assertSame(kept_answer(book, ((0,),), 0), 0)


class TestRanks(Case):

    def test_example(self):
        for form in mixed_forms(TOSSED):
            self.assertSame(rank_of(toss_and_show(), form), 1)
            self.assertIs(rank_of(loose_toss(), form), None)

    def test_against_their_definition(self):
        found = {}
        for book, joint, table, _, ranks in samples(116, 150):
            for form in (joint, as_lists(joint)):
                self.assertSame(rank_of(book, form), ranks[plain_trimmed(joint)])
            for reached, rank in list(ranks.items())[:6]:
                self.assertSame(rank_of(book, reached), rank)
            rank = ranks[plain_trimmed(joint)]
            found[rank] = found.get(rank, 0) + 1
        self.assertGreater(len(found), 3)
        self.assertGreater(sum(many for rank, many in found.items() if rank), 20)

    def test_ranks_below_are_reached(self):
        for book, joint, table, _, ranks in samples(117, 150):
            rank = rank_of(book, joint)
            if rank is not None:
                self.assertLess(rank, len(table))
                self.assertTrue(set(range(rank)) <= set(ranks.values()))

    def test_a_rank_means_a_play_of_so_many_calls(self):
        for book, joint, _, _, _ in samples(118, 80):
            rank = rank_of(book, joint)
            if rank is not None and rank <= 4:
                self.assertTrue(can_be_driven(book, plain_trimmed(joint), rank))
                if rank > 0:
                    self.assertFalse(can_be_driven(book, plain_trimmed(joint), rank - 1))


def can_be_driven(book, joint, calls):
    """Tell whether within so many calls some standing is (), whatever is answered."""
    if () in joint:
        return True
    return calls > 0 and any(all(can_be_driven(book, plain_onward(book, joint, call, answer), calls - 1)
                                 for answer in book.answers) for call in range(book.calls))


class TestKept(Case):

    def test_example(self):
        self.assertSame(kept_answer(loose_toss(), TOSSED, 1), 1)
        self.assertSame(kept_answer(loose_toss(), TOSSED, 0), 0)
        self.assertSame(kept_lot(loose_toss(), TOSSED), (((1,),), TOSSED))
        self.assertSame(kept_run(loose_toss(), TOSSED, (1, 1, 0, 1)), (1, 1, 0, 0))

    def test_answers_lots_and_runs(self):
        dice = random.Random(119)
        tried = 0
        for book, joint, table, lot, _ in samples(119, 150):
            if plain_trimmed(joint) not in lot:
                continue
            tried += 1
            borne = sorted({way[2] for way in book.ways})
            kept = {}
            for safe in lot:
                for call, row in enumerate(table[safe]):
                    least = [at for at, led in enumerate(row) if led in lot][0]
                    kept[(safe, call)] = (borne[least], row[least])
            for call in range(book.calls):
                self.assertSame(kept_answer(book, joint, call), kept[(plain_trimmed(joint), call)][0])
            closed, waiting = set(), [plain_trimmed(joint)]
            while waiting:
                present = waiting.pop()
                if present not in closed:
                    closed.add(present)
                    waiting += [kept[(present, call)][1] for call in range(book.calls)]
            self.assertSame(kept_lot(book, joint), tuple(sorted(closed)))
            self.assertIs(lot_fault(book, joint, kept_lot(book, joint)), None)
            for length in (0, 1, 7, 200):
                calls = [dice.randrange(book.calls) for _ in range(length)]
                present, answers = plain_trimmed(joint), []
                for call in calls:
                    answer, present = kept[(present, call)]
                    answers.append(answer)
                self.assertSame(kept_run(book, joint, calls), tuple(answers))
                self.assertSame(kept_run(book, as_lists(joint), tuple(calls)), tuple(answers))
        self.assertGreater(tried, 50)

    def test_no_standing_of_a_safe_joint_becomes_bare(self):
        dice = random.Random(120)
        for book, joint, _, lot, _ in samples(120, 100):
            if plain_trimmed(joint) in lot:
                calls = [dice.randrange(book.calls) for _ in range(40)]
                trail = list(zip(calls, kept_run(book, joint, calls)))
                for standing in joint:
                    self.assertNotEqual(walk_ends(book, standing, trail), ())

    def test_not_safe(self):
        for ask, more in ((kept_answer, (0,)), (kept_answer, (1,)), (kept_run, ((),)), (kept_run, ((0, 1),)), (kept_lot, ())):
            self.refuses(NotSafe, {}, ask, toss_and_show(), TOSSED, *more)
            self.refuses(NotSafe, {}, ask, toss_and_show(), DEAD, *more)

    def test_not_safe_though_the_call_leads_to_a_safe_joint(self):
        self.assertIs(is_safe(toss_and_show(), ((1,),)), True)
        self.refuses(NotSafe, {}, kept_answer, toss_and_show(), TOSSED, 0)
        self.refuses(NotSafe, {}, kept_run, toss_and_show(), TOSSED, (0,))

    def test_bad_call(self):
        for call in NOT_NUMBERS + (2, -1, 10 ** 100):
            for book, joint in ((loose_toss(), TOSSED), (toss_and_show(), TOSSED)):
                self.refuses(BadCall, {}, kept_answer, book, joint, call)
        self.refuses(BadCall, {}, kept_answer, exchanges(6, 2), ((0, 1), (1, 2), (2, 3, 4)), 3)

    def test_bad_calls(self):
        for book in (loose_toss(), toss_and_show()):
            for thing in NOT_SEQUENCES:
                self.refuses(BadCalls, {"index": 0}, kept_run, book, TOSSED, thing)
            for calls in ((0,) * 201, [None] * 201):
                self.refuses(BadCalls, {"index": 201}, kept_run, book, TOSSED, calls)
            for thing in NOT_NUMBERS + (2, -1, 10 ** 100):
                self.refuses(BadCalls, {"index": 2}, kept_run, book, TOSSED, [0, 1, thing, None])
        self.refuses(BadCalls, {"index": 0}, kept_run, exchanges(6, 2), ((0, 1), (1, 2), (2, 3, 4)), (3,))

    def test_200_calls(self):
        self.assertSame(kept_run(loose_toss(), TOSSED, (1,) * 200), (1,) * 200)

    def test_no_calls(self):
        for calls in ((), []):
            self.assertSame(kept_run(loose_toss(), TOSSED, calls), ())
            self.refuses(BadJoint, {}, kept_run, loose_toss(), (), calls)


class TestLotFault(Case):

    def test_example(self):
        for lot in mixed_forms((((1,),), TOSSED)):
            self.assertIs(lot_fault(loose_toss(), TOSSED, lot), None)
            self.assertSame(lot_fault(toss_and_show(), TOSSED, lot), ("call", 1, 1))

    def test_start(self):
        for lot in ((), (((1,),),), (DEAD,), (((0,), (1,)),)):
            self.assertSame(lot_fault(loose_toss(), TOSSED, lot), ("start",))

    def test_dead(self):
        for lot, index in (((TOSSED, DEAD), 1), ((DEAD, TOSSED), 0), ((TOSSED, ((1,),), ((1,), ()), DEAD), 2)):
            for form in mixed_forms(lot):
                self.assertSame(lot_fault(loose_toss(), TOSSED, form), ("dead", index))
        self.assertSame(lot_fault(loose_toss(), DEAD, (DEAD,)), ("dead", 0))

    def test_dead_comes_before_call(self):
        self.assertSame(lot_fault(toss_and_show(), TOSSED, (TOSSED, DEAD)), ("dead", 1))

    def test_call(self):
        self.assertSame(lot_fault(loose_toss(), TOSSED, (TOSSED,)), ("call", 0, 0))
        self.assertSame(lot_fault(set_and_look(), ((0,),), (((0,),),)), ("call", 0, 0))
        self.assertSame(lot_fault(set_and_look(), ((0,),), (((0,),), ((1,),), ((0,), (1,)))), ("call", 2, 1))

    def test_trimmed_items_and_duplicates(self):
        lot = [[[2], [1], [1, 2]], [[1], [1]], [[1], [2]], [[0, 1], [1]]]
        self.assertIs(lot_fault(loose_toss(), [[2], [1, 2], [1]], lot), None)

    def test_bad_lot(self):
        for thing in NOT_SEQUENCES:
            self.refuses(BadLot, {"index": 0}, lot_fault, loose_toss(), TOSSED, thing)
        for lot in (([[0]],) * 301, [None] * 301):
            self.refuses(BadLot, {"index": 301}, lot_fault, loose_toss(), TOSSED, lot)
        for thing in NOT_JOINTS:
            self.refuses(BadLot, {"index": 2}, lot_fault, loose_toss(), TOSSED, [TOSSED, DEAD, thing, None])

    def test_300_items(self):
        self.assertIs(lot_fault(loose_toss(), TOSSED, [TOSSED, ((1,),)] * 150), None)
        self.assertSame(lot_fault(loose_toss(), TOSSED, [((1,),)] * 300), ("start",))

    def test_no_bound_on_what_is_reached(self):
        joint = ((0, 1), (1, 2), (2, 3, 4))
        self.assertSame(lot_fault(exchanges(6, 2), joint, (joint,)), ("call", 0, 0))
        everything = (tuple(range(6)),)
        self.assertIs(lot_fault(exchanges(6, 2), everything, (everything,)), None)

    def test_dropped_added_and_greater_joints(self):
        dice = random.Random(121)
        faults = set()
        for book, joint, table, safe, _ in samples(121, 80):
            if plain_trimmed(joint) not in safe:
                self.assertIsNotNone(lot_fault(book, joint, sorted(table)[:300]))
                continue
            lot = list(kept_lot(book, joint))
            standings = all_standings(book)
            lots = [lot[:at] + lot[at + 1:] for at in range(len(lot))][:6]
            lots += [lot + [[dice.choice(standings)]], [[dice.choice(standings), dice.choice(standings)]] + lot]
            at = dice.randrange(len(lot))
            lots += [lot[:at] + [tuple(tuple(range(book.states)) for _ in lot[at])] + lot[at + 1:]]
            lots += [lot[:at] + [lot[at] + (dice.choice(standings),)] + lot[at + 1:], lot[::-1], lot + lot[:3]]
            for changed in lots:
                fault = plain_lot_fault(book, joint, changed)
                self.assertSame(lot_fault(book, joint, changed), fault)
                self.assertSame(lot_fault(book, as_lists(joint), tuple(changed)), fault)
                faults.add(fault and fault[0])
        self.assertEqual(faults, {None, "start", "dead", "call"})


def plain_lot_fault(book, joint, lot):
    """The first fault of a lot, word by word."""
    joints = [plain_trimmed(item) for item in lot]
    if plain_trimmed(joint) not in joints:
        return ("start",)
    for index, item in enumerate(joints):
        if () in item:
            return ("dead", index)
    for (index, item), call in product(enumerate(joints), range(book.calls)):
        if all(plain_onward(book, item, call, answer) not in joints for answer in range(3)):
            return ("call", index, call)
    return None


class TestWhatIsKept(Case):
    """[4.9] (a) to (e)."""

    def test_a_one_standing(self):
        for book in drawn_books(122, 60, 4, 3):
            for standing in all_standings(book)[1:]:
                self.assertIs(is_safe(book, (standing,)), True)
                self.assertIs(rank_of(book, (standing,)), None)

    def test_b_greater_and_fewer_standings(self):
        dice = random.Random(123)
        for book, joint, _, _, _ in samples(123, 90):
            greater = [tuple(sorted(set(standing) | {dice.randrange(book.states)})) for standing in joint]
            for less in (joint[:-1] or joint, greater, greater[1:] or greater, [dice.choice(joint)]):
                self.assert_no_worse(rank_of(book, less), rank_of(book, joint))

    def assert_no_worse(self, better, worse):
        """Want that the one joint is safe if the other is, and else has no lesser rank."""
        if worse is None:
            self.assertIs(better, None)
        elif better is not None:
            self.assertLessEqual(worse, better)

    def test_c_more_ways(self):
        dice = random.Random(124)
        for book, joint, _, _, _ in samples(124, 90):
            missing = [way for way in product(range(book.states), range(book.calls), range(3), range(book.states))
                       if way not in book]
            for way in dice.sample(missing, min(3, len(missing))):
                self.assert_no_worse(rank_of(book.with_way(way), joint), rank_of(book, joint))

    def test_d_more_standings(self):
        dice = random.Random(125)
        barred = 0
        for book, joint, _, _, _ in samples(125, 120):
            if not is_safe(book, joint):
                barred += 1
                for _ in range(3):
                    self.assertIs(is_safe(book, list(joint) + [dice.choice(all_standings(book))]), False)
        self.assertGreater(barred, 20)

    def test_e_greater_standings_follow_kept_answers(self):
        dice = random.Random(126)
        for book, joint, _, lot, _ in samples(126, 120):
            if plain_trimmed(joint) in lot:
                calls = [dice.randrange(book.calls) for _ in range(30)]
                trail = list(zip(calls, kept_run(book, joint, calls)))
                for standing in joint:
                    greater = set(standing) | {dice.randrange(book.states)}
                    self.assertNotEqual(walk_ends(book, sorted(greater), trail), ())

    def test_order_and_duplicates_do_not_matter(self):
        for book, joint, _, _, _ in list(samples(127, 40))[:40]:
            for order in list(permutations(joint))[:6]:
                for ask in (joints_from, is_safe, safe_joints, rank_of):
                    self.assertSame(ask(book, order + order[:1]), ask(book, joint))
