"""[4.7] to [4.11], of [3.15] what it says of wishes that are had, and of [0.3] what it says of wish_fault."""

import random
from itertools import permutations, product

from tests.helper import (NOT_NUMBERS, NOT_SEQUENCES, TOSS_SCRIPTS, Case, all_standings, as_lists, drawn_wishes, ends_behind,
                          full_book, least_book, likely_wishes, mixed_forms, plain_entries, plain_onward, plain_reached,
                          plain_safe, plain_trimmed, set_and_look, toss_and_show, walk_ends, weavings_of)
from tests.test_joints import NOT_JOINTS
from tests.test_safety import DEAD, REACHES_300, REACHES_301, TOSSED, countdown, exchanges, loose_toss, samples
from unmetcells.books import Book
from unmetcells.cuts import cuts_of
from unmetcells.errors import BadJoint, IsSafe, TooMany
from unmetcells.foes import Barred, foe_plan, is_had, plan_fault, wish_fault
from unmetcells.joints import joint_at, joint_onward, joints_of
from unmetcells.safety import is_safe, rank_of, safe_joints
from unmetcells.scripts import Wish, alone_fault, cut_down, script_behind, without_hand
from unmetcells.standings import is_right

TOSS_PLAN = ((TOSSED, 1), (DEAD, None))

WIDE_WAYS = (
    (0, 0, 0, 1), (0, 1, 0, 1), (0, 2, 0, 4), (1, 0, 0, 0), (1, 1, 0, 2), (1, 2, 0, 3), (2, 0, 0, 2), (2, 1, 0, 3), (2, 2, 0, 0),
    (3, 0, 0, 3), (3, 1, 0, 4), (3, 2, 0, 3), (4, 0, 0, 4), (4, 1, 0, 5), (4, 2, 0, 0), (4, 2, 0, 4), (5, 0, 0, 5), (5, 1, 0, 0),
    (5, 2, 0, 2))


def wishes():
    return drawn_wishes(131, 60) + likely_wishes(132, 150)


def plain_plan_fault(book, joint, plan):
    """The index of the first fault of a plan that is made of tuples or lists throughout."""
    rows = [(plain_trimmed(row[0]), row[1]) for row in plan]
    if not 1 <= len(rows) <= 300 or rows[0][0] != plain_trimmed(joint):
        return 0
    for index, (present, call) in enumerate(rows):
        later = [row[0] for row in rows[index + 1:]]
        if () in present:
            if call is not None:
                return index
        elif call not in range(book.calls):
            return index
        elif any(plain_onward(book, present, call, answer) not in later for answer in book.answers):
            return index
    return None


def barred_samples(seed, many):
    """Books with barred joints and with the ranks of all joints that are reached."""
    return [(book, joint, ranks) for book, joint, _, lot, ranks in samples(seed, many) if plain_trimmed(joint) not in lot]


class TestPlanFault(Case):

    def fault(self, plan, wanted, book=None, joint=TOSSED):
        for form in mixed_forms(plan):
            self.assertSame(plan_fault(book or toss_and_show(), joint, form), wanted)

    def test_example(self):
        self.fault(TOSS_PLAN, None)
        for joint in mixed_forms(((2,), (1,), (1, 2))):
            self.assertIs(plan_fault(toss_and_show(), joint, TOSS_PLAN), None)
        self.fault(TOSS_PLAN, 0, loose_toss())
        self.fault(((DEAD, None),), None, joint=DEAD)

    def test_the_whole(self):
        for thing in NOT_SEQUENCES + ((), [], None):
            self.assertSame(plan_fault(toss_and_show(), TOSSED, thing), 0)

    def test_1_row_300_rows_and_301(self):
        self.fault(((DEAD, None),), None, joint=DEAD)
        self.fault(((DEAD, None),) * 300, None, joint=DEAD)
        self.fault(((DEAD, None),) * 301, 0, joint=DEAD)
        self.fault(((TOSSED, 1),) * 299 + ((DEAD, None),), None)
        self.fault(((TOSSED, 1),) * 300 + ((DEAD, None),), 0)
        self.fault(((DEAD, None),) * 299 + ((DEAD, 0),), 299, joint=DEAD)

    def test_the_first_row(self):
        rows = [DEAD, None]
        for row in NOT_SEQUENCES + ((), (TOSSED,), (TOSSED, 1, 1), (((1,),), 1), (DEAD, None)):
            self.assertSame(plan_fault(toss_and_show(), TOSSED, [row, rows]), 0)
        for thing in NOT_JOINTS:
            self.assertSame(plan_fault(toss_and_show(), TOSSED, [(thing, 1), rows]), 0)

    def test_a_row_that_does_not_bar(self):
        for row in NOT_SEQUENCES + ((), (DEAD,), (DEAD, None, None), (TOSSED, 0), (TOSSED, None), (DEAD, 0), (DEAD, False),
                                    (TOSSED, 2), (TOSSED, -1), (((1,),), 0)):
            self.assertSame(plan_fault(toss_and_show(), TOSSED, [TOSS_PLAN[0], row, TOSS_PLAN[1]]), 1)
            self.assertSame(plan_fault(toss_and_show(), TOSSED, [TOSS_PLAN[0], TOSS_PLAN[1], row]), 2)
        for thing in NOT_JOINTS:
            self.assertSame(plan_fault(toss_and_show(), TOSSED, [TOSS_PLAN[0], TOSS_PLAN[1], (thing, None)]), 2)

    def test_true_and_false_are_no_calls(self):
        for call in NOT_NUMBERS + (2, -1, 10 ** 100):
            self.assertSame(plan_fault(toss_and_show(), TOSSED, [(TOSSED, call), TOSS_PLAN[1]]), 0)
            if call is not None:
                self.assertSame(plan_fault(toss_and_show(), DEAD, [(DEAD, call)]), 0)
                self.assertSame(plan_fault(toss_and_show(), TOSSED, [TOSS_PLAN[0], (DEAD, call)]), 1)

    def test_joints_stand_in_later_rows_alone(self):
        self.fault((TOSS_PLAN[0],), 0)
        self.fault((TOSS_PLAN[0], TOSS_PLAN[0]), 0)
        self.fault((TOSS_PLAN[0], TOSS_PLAN[1], TOSS_PLAN[0]), 2)
        book = countdown(3)
        joint = ((1,), (2,))
        rows = ((joint, 0), (((0,), (1,)), 0), (DEAD, None))
        self.fault(rows, None, book, joint)
        self.fault((rows[0], rows[2], rows[1]), 2, book, joint)
        self.fault((rows[0], rows[2], rows[1], rows[2]), None, book, joint)
        self.fault((rows[1],) + rows, 0, book, joint)

    def test_no_joint_stands_in_a_row_that_is_refused(self):
        self.assertSame(plan_fault(toss_and_show(), TOSSED, [TOSS_PLAN[0], (DEAD,)]), 0)
        self.assertSame(plan_fault(toss_and_show(), TOSSED, [TOSS_PLAN[0], (DEAD, None, 0)]), 0)
        self.assertSame(plan_fault(toss_and_show(), TOSSED, [TOSS_PLAN[0], (((), (7,)), None)]), 0)
        self.assertSame(plan_fault(toss_and_show(), TOSSED, [TOSS_PLAN[0], (DEAD, 5)]), 1)

    def test_rows_that_no_other_row_needs_must_bar(self):
        self.fault(TOSS_PLAN + ((((0,),), 0),), 2)
        self.fault((TOSS_PLAN[0], TOSS_PLAN[0], TOSS_PLAN[1], TOSS_PLAN[1]), None)

    def test_joints_count_trimmed(self):
        plan = [([[2], [1], [1, 2], [2]], 1), ([[0], []], None)]
        self.assertIs(plan_fault(toss_and_show(), [[2], [1]], plan), None)

    def test_bad_joint(self):
        for thing in NOT_JOINTS:
            for plan in (TOSS_PLAN, None):
                self.refuses(BadJoint, {}, plan_fault, toss_and_show(), thing, plan)

    def test_no_bound_on_what_is_reached(self):
        joint = ((0, 1), (1, 2), (2, 3, 4))
        self.assertSame(plan_fault(exchanges(6, 2), joint, ((joint, 0), (DEAD, None))), 0)
        self.assertIs(plan_fault(exchanges(6, 2), joint + ((),), ((DEAD, None),)), None)

    def test_spoilt_plans(self):
        dice = random.Random(133)
        faults = set()
        for book, joint, _ in barred_samples(133, 150):
            plan = list(foe_plan(book, joint))
            at, to = dice.randrange(len(plan)), dice.randrange(len(plan))
            moved = plan[:at] + plan[at + 1:]
            standing = dice.choice(all_standings(book))
            spoilt = [plan[:at] + plan[at + 1:], plan[:at] + plan[at:at + 1] * 2 + plan[at + 1:],
                      moved[:to] + [plan[at]] + moved[to:], plan + [((standing,), 0)],
                      plan[:at] + [(plan[at][0], dice.choice((None, 0, 1, 2)))] + plan[at + 1:],
                      plan[:at] + [(plan[at][0] + (standing,), plan[at][1])] + plan[at + 1:], plan[::-1], plan + plan]
            for changed in spoilt:
                wanted = plain_plan_fault(book, joint, changed)
                self.assertSame(plan_fault(book, joint, changed), wanted)
                self.assertSame(plan_fault(book, as_lists(joint), as_lists(changed)), wanted)
                faults.add(wanted)
        self.assertTrue({None, 0, 1, 2} <= faults)

    def test_no_plan_for_safe_joints(self):
        for book, joint, table, lot, _ in samples(134, 60):
            if plain_trimmed(joint) in lot:
                for call in range(book.calls):
                    rows = [(plain_trimmed(joint), call)] + [(item, call) for item in sorted(table)] + [(DEAD, None)]
                    self.assertIsNotNone(plan_fault(book, joint, rows[:300]))


class TestFoePlan(Case):

    def test_example(self):
        for form in mixed_forms(TOSSED):
            self.assertSame(foe_plan(toss_and_show(), form), TOSS_PLAN)
        self.assertSame(foe_plan(toss_and_show(), ((2,), (1, 2), (1,))), TOSS_PLAN)

    def test_dead_joint(self):
        for book in (toss_and_show(), full_book(6, 4)):
            for joint in (DEAD, [[]], ((0,), ())):
                self.assertSame(foe_plan(book, joint), ((DEAD, None),))

    def test_against_ranks(self):
        longest = 0
        for book, joint, ranks in barred_samples(135, 150):
            plan = foe_plan(book, joint)
            calls, waiting = {}, [plain_trimmed(joint)]
            while waiting:
                present = waiting.pop()
                if present == DEAD:
                    calls[present] = None
                elif present not in calls:
                    for call in range(book.calls):
                        led = [plain_onward(book, present, call, answer) for answer in book.answers]
                        if all(ranks[item] is not None and ranks[item] < ranks[present] for item in led):
                            calls[present] = call
                            waiting += led
                            break
            wanted = sorted(calls, key=lambda item: (-ranks[item], item))
            self.assertSame(plan, tuple((item, calls[item]) for item in wanted))
            self.assertTuples(plan)
            self.assertIs(plan_fault(book, joint, plan), None)
            self.assertSame((plan[0][0], plan[-1]), (plain_trimmed(joint), (DEAD, None)))
            longest = max(longest, len(plan))
        self.assertGreater(longest, 3)

    def test_a_play_ends_in_a_dead_joint_whatever_is_answered(self):
        for book, joint, ranks in barred_samples(136, 150):
            plan = dict(foe_plan(book, joint))
            rank = rank_of(book, joint)
            for answers in product(range(3), repeat=min(rank, 5)):
                present = plain_trimmed(joint)
                for answer in answers:
                    if plan.get(present) is not None:
                        present = plain_onward(book, present, plan[present], answer)
                if rank <= 5:
                    self.assertSame(present, DEAD)

    def test_errors(self):
        for thing in NOT_JOINTS:
            self.refuses(BadJoint, {}, foe_plan, toss_and_show(), thing)
        self.refuses(TooMany, {"most": 300}, foe_plan, *REACHES_301)
        self.refuses(IsSafe, {}, foe_plan, *REACHES_300)
        self.refuses(IsSafe, {}, foe_plan, loose_toss(), TOSSED)
        self.refuses(IsSafe, {}, foe_plan, toss_and_show(), ((0,),))

    def test_barred_exactly_if_there_is_a_plan(self):
        for book, joint, _, _, _ in samples(137, 80):
            if is_safe(book, joint):
                self.refuses(IsSafe, {}, foe_plan, book, joint)
            else:
                self.assertIs(plan_fault(book, joint, foe_plan(book, joint)), None)

    def test_what_is_passed_stays(self):
        joint, plan = [[2], [1, 2], [1]], [[[[2], [1]], 1], [[[]], None]]
        foe_plan(toss_and_show(), joint)
        plan_fault(toss_and_show(), joint, plan)
        self.assertSame((joint, plan), ([[2], [1, 2], [1]], [[[[2], [1]], 1], [[[]], None]]))


class TestBarred(Case):

    def test_it_keeps_what_it_is_given(self):
        cut, joint, plan = [1], object(), {}
        barred = Barred(cut, joint, plan)
        self.assertIs(barred.cut, cut)
        self.assertIs(barred.joint, joint)
        self.assertIs(barred.plan, plan)
        self.assertEqual(vars(Barred(cut=1, joint=2, plan=3)), {"cut": 1, "joint": 2, "plan": 3})

    def test_equal(self):
        self.assertTrue(Barred(1, 2, 3) == Barred(1, 2, 3))
        self.assertFalse(Barred(1, 2, 3) != Barred(1, 2, 3))
        for other in (Barred(0, 2, 3), Barred(1, 0, 3), Barred(1, 2, 0), (1, 2, 3), None, 1, object()):
            self.assertFalse(Barred(1, 2, 3) == other)
            self.assertTrue(Barred(1, 2, 3) != other)
            self.assertFalse(other == Barred(1, 2, 3))


class TestWishes(Case):

    def test_example(self):
        wish = Wish(toss_and_show(), (), TOSS_SCRIPTS)
        self.assertEqual(wish_fault(wish), Barred(((0,), (0,)), TOSSED, TOSS_PLAN))
        self.assertIs(is_had(wish), False)
        wish = Wish(loose_toss(), (), TOSS_SCRIPTS)
        self.assertIs(wish_fault(wish), None)
        self.assertIs(is_had(wish), True)

    def test_set_and_look(self):
        scripts = (((0, 0, ()),), ((1, 1, ()),))
        self.assertIs(is_had(Wish(set_and_look(), ((0, 0, 0),), scripts)), True)
        self.assertEqual(wish_fault(Wish(set_and_look(), (), scripts)), Barred(((), (1,)), DEAD, ((DEAD, None),)))

    def test_bare_scripts_are_had(self):
        for book in (toss_and_show(), full_book(6, 4), least_book(1, 1)):
            self.assertIs(wish_fault(Wish(book, (), ((),) * 3)), None)

    def test_the_first_barred_cut(self):
        had = 0
        for wish in wishes():
            fault = None
            for cut in cuts_of(wish):
                joint = joint_at(wish, cut)
                if joint not in plain_safe(plain_reached(wish.book, joint)):
                    fault = Barred(cut, joint, foe_plan(wish.book, joint))
                    break
            self.assertEqual(wish_fault(wish), fault)
            self.assertIs(is_had(wish), fault is None)
            if fault is not None:
                found = wish_fault(wish)
                self.assertTuples((found.cut, found.joint, found.plan))
            had += fault is None
        self.assertGreater(had, 50)
        self.assertGreater(len(wishes()) - had, 50)

    def test_some_order_ends_wrong_whatever_is_answered(self):
        tried = 0
        for wish in wishes():
            fault = wish_fault(wish)
            if fault is None:
                continue
            plan = dict(fault.plan)
            rank = rank_of(wish.book, fault.joint)
            tried += rank > 0
            for answers in product(range(3), repeat=min(rank, 4)):
                joint, rows = fault.joint, list(weavings_of(wish, fault.cut))
                for answer in answers:
                    if plan[joint] is not None:
                        rows = [row + ((7, plan[joint], answer),) for row in rows]
                        joint = joint_onward(wish.book, joint, plan[joint], answer)
                if rank <= 4:
                    self.assertIn((), [ends_behind(wish, row) for row in rows])
        self.assertGreater(tried, 5)

    def test_too_many_joints(self):
        wish = wide_wish()
        self.assertSame(joint_at(wish, ((1,), (0,))), ((0,), (2,)))
        self.assertGreater(len(plain_reached(wish.book, ((0,), (2,)))), 300)
        self.refuses(TooMany, {"most": 300}, wish_fault, wish)
        self.refuses(TooMany, {"most": 300}, is_had, wish)

    def test_no_error_behind_a_barred_cut(self):
        wish = wide_wish(((2, 1, ()),))
        self.assertEqual(wish_fault(wish), Barred(((), (2,)), DEAD, ((DEAD, None),)))
        self.assertIs(is_had(wish), False)

    def test_the_error_comes_ahead_of_a_later_barred_cut(self):
        wish = wide_wish(((2, 0, ((0, 0, ((0, 1, ()),)),)),))
        self.assertEqual(joint_at(wish, ((), (2, 0, 0))), DEAD)
        self.refuses(TooMany, {"most": 300}, wish_fault, wish)
        self.refuses(TooMany, {"most": 300}, is_had, wish)


def wide_wish(more=()):
    """A wish over six states at whose cut ((1,), (0,)) a joint reaches more than 300 joints."""
    return Wish(Book(6, 3, WIDE_WAYS), (), (((1, 0, ()),), ((0, 0, ()),) + more))


class TestWhatIsKept(Case):
    """[3.15] and [4.9] of wishes."""

    def test_less_of_a_wish_that_is_had(self):
        tried = 0
        for wish in wishes():
            if is_had(wish):
                for depth in range(4):
                    self.assertIs(is_had(cut_down(wish, depth)), True)
                for hand in range(len(wish.scripts) if len(wish.scripts) > 1 else 0):
                    self.assertIs(is_had(without_hand(wish, hand)), True)
                    tried += 1
        self.assertGreater(tried, 50)

    def test_hands_change_places(self):
        for wish in wishes()[::3]:
            for order in permutations(wish.scripts):
                self.assertIs(is_had(Wish(wish.book, wish.past, order)), is_had(wish))

    def test_one_script_alone(self):
        found = set()
        for wish in wishes():
            for script in wish.scripts:
                alone = Wish(wish.book, wish.past, (script,))
                self.assertIs(is_had(alone), alone_fault(alone) is None)
                found.add(is_had(alone))
            if alone_fault(wish) is not None:
                self.assertIs(is_had(wish), False)
        self.assertEqual(found, {True, False})

    def test_one_hand_goes_ahead(self):
        tried = 0
        for wish in wishes():
            for cut in cuts_of(wish) if is_had(wish) else ():
                hands = [hand for hand, turn in enumerate(cut) if turn]
                if len(hands) == 1:
                    hand = hands[0]
                    past = wish.past + plain_entries(wish.scripts[hand], hand, cut[hand])
                    self.assertIs(is_right(wish.book, past), True)
                    if len(past) <= 6:
                        scripts = list(wish.scripts)
                        scripts[hand] = script_behind(scripts[hand], cut[hand])
                        self.assertIs(is_had(Wish(wish.book, past, scripts)), True)
                        tried += 1
        self.assertGreater(tried, 100)

    def test_more_ways(self):
        dice = random.Random(138)
        for wish in wishes()[::2]:
            missing = [way for way in product(range(wish.book.states), range(wish.book.calls), range(3),
                                              range(wish.book.states)) if way not in wish.book]
            for way in dice.sample(missing, min(2, len(missing))):
                looser = Wish(wish.book.with_way(way), wish.past, wish.scripts)
                self.assertGreaterEqual(is_had(looser), is_had(wish))

    def test_barred_joints_with_more_standings(self):
        for book, joint, _ in barred_samples(139, 100):
            for standing in all_standings(book)[::3]:
                self.assertIs(is_safe(book, list(joint) + [standing]), False)
                plan = foe_plan(book, list(joint) + [standing])
                self.assertIs(plan_fault(book, list(joint) + [standing], plan), None)

    def test_safe_joints_have_ends_for_all_their_standings(self):
        for wish in wishes():
            if is_had(wish):
                for cut, joint in joints_of(wish):
                    self.assertIn(joint, safe_joints(wish.book, joint))
                    for row in weavings_of(wish, cut):
                        trail = [entry[1:] for entry in wish.past + row]
                        self.assertNotEqual(walk_ends(wish.book, (0,), trail), ())
