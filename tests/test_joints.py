"""[3.10] to [3.14], [3.15] as far as it speaks of joints, and [3.16]."""

import random
from itertools import combinations, islice, permutations

from tests.helper import (NOT_NUMBERS, NOT_SEQUENCES, TOSS_SCRIPTS, Case, all_standings, as_lists, drawn_joints, drawn_wishes,
                          ends_behind, full_book, full_script, least_book, likely_wishes, mixed_forms,
                          plain_entries, plain_joint, plain_onward, plain_trimmed, toss_and_show, weavings_of)
from tests.test_standings import NOT_STANDINGS
from unmetcells.books import Book
from unmetcells.cuts import cut_size, cut_with, cuts_of, heads_at, weavings_at
from unmetcells.errors import BadAnswer, BadCall, BadJoint, TooMany
from unmetcells.joints import check_joint, joint_at, joint_onward, joints_of, standings_at, trimmed
from unmetcells.scripts import Wish, alone_fault, cut_down, script_behind, without_hand
from unmetcells.standings import is_right, standing_of

# Things that are no joint of a book with three states.
NOT_JOINTS = NOT_SEQUENCES + ((), [], ((),) * 65, [(0,)] * 65) + tuple(
    [(0,), thing] for thing in NOT_STANDINGS) + tuple((thing,) for thing in NOT_STANDINGS)


def wishes():
    """Wishes that are had and others, with few enough weavings to walk them all."""
    return drawn_wishes(91, 50) + likely_wishes(92, 50)


def holds_one(greater, standings):
    """Tell whether a standing holds all states of one of the standings."""
    return any(set(lesser) <= set(greater) for lesser in standings)


def drawn_rows(seed, many):
    """So many rows of standings of a book with five states."""
    dice = random.Random(seed)
    standings = all_standings(least_book(5, 1))
    for _ in range(many):
        yield [dice.choice(standings[dice.randrange(2):]) for _ in range(dice.randrange(9))]


class TestTrimmed(Case):

    def test_samples(self):
        for standings, wanted in (
                (((0, 1), (1,)), ((1,),)), (((0, 1), (0, 1)), ((0, 1),)), (((2,), (0, 1), (0,)), ((0,), (2,))),
                (((0, 1), (1, 2), (0, 1, 2)), ((0, 1), (1, 2))), (((0, 1, 2), (1, 2), (2,)), ((2,),)),
                (((1,), (0, 2), (0,), (0, 1)), ((0,), (1,)))):
            for form in mixed_forms(standings):
                self.assertSame(trimmed(form), wanted)

    def test_no_items(self):
        self.assertSame(trimmed(()), ())
        self.assertSame(trimmed([]), ())

    def test_bare_standing(self):
        for standings in (((),), ((), ()), ((0,), ()), ((), (0, 1), (2,)), tuple(all_standings(least_book(4, 1)))):
            for form in mixed_forms(standings):
                self.assertSame(trimmed(form), ((),))

    def test_against_all_couples(self):
        for standings in drawn_rows(93, 400):
            found = trimmed(standings)
            self.assertSame(found, plain_trimmed(standings))
            self.assertTuples(found)
            self.assertSame(trimmed(found), found)
            for standing in standings:
                self.assertTrue(holds_one(standing, found))

    def test_order_and_duplicates_do_not_matter(self):
        for standings in drawn_rows(94, 60):
            for order in islice(permutations(standings), 30):
                self.assertSame(trimmed(order + order[:2]), trimmed(standings))

    def test_items_are_not_checked(self):
        self.assertSame(trimmed([(70, 80), [80], (5,)]), ((5,), (80,)))

    def test_what_is_passed_stays(self):
        standings = [[0, 1], [1], [0, 1]]
        trimmed(standings)
        self.assertSame(standings, [[0, 1], [1], [0, 1]])


class TestCheckJoint(Case):

    def test_samples(self):
        book = toss_and_show()
        for joint, wanted in ((((0,),), ((0,),)), (((),), ((),)), (((1, 2), (0,), (1, 2), (0, 1)), ((0,), (1, 2))),
                              (((2,), (1,)), ((1,), (2,))), (((1,), ()), ((),))):
            for form in mixed_forms(joint):
                self.assertSame(check_joint(book, form), wanted)

    def test_1_and_64_items_none_and_65(self):
        book = full_book(6, 1)
        for many in (1, 2, 63, 64):
            self.assertSame(check_joint(book, [[3, 4]] * many), ((3, 4),))
        self.assertSame(check_joint(book, all_standings(book)), ((),))
        self.assertSame(check_joint(book, all_standings(book)[1:]), tuple((state,) for state in range(6)))
        for joint in ((), [], ((3, 4),) * 65, [[]] * 65, [None] * 65):
            self.refuses(BadJoint, {}, check_joint, book, joint)

    def test_at_most_20_standings(self):
        book = full_book(6, 1)
        triples = tuple(combinations(range(6), 3))
        self.assertSame(check_joint(book, triples), triples)
        self.assertEqual(len(triples), 20)

    def test_refused(self):
        for thing in NOT_JOINTS:
            self.refuses(BadJoint, {}, check_joint, toss_and_show(), thing)
        self.refuses(BadJoint, {}, check_joint, full_book(6, 4), ((6,),))
        for thing in NOT_NUMBERS:
            self.refuses(BadJoint, {}, check_joint, toss_and_show(), ((0,), (thing,)))

    def test_what_is_passed_stays_and_may_change_later(self):
        joint = [[1, 2], [0]]
        checked = check_joint(toss_and_show(), joint)
        self.assertSame(joint, [[1, 2], [0]])
        joint[0].append(7)
        self.assertSame(checked, ((0,), (1, 2)))


class TestJointAt(Case):

    def test_example(self):
        wish = Wish(toss_and_show(), (), TOSS_SCRIPTS)
        for cut, joint in ((((), ()), ((0,),)), (((0,), ()), ((1,),)), (((), (0,)), ((2,),)),
                           (((0,), (0,)), ((1,), (2,)))):
            for form in mixed_forms(cut):
                self.assertSame(joint_at(wish, form), joint)
        self.assertIs(alone_fault(wish), None)

    def test_against_all_weavings(self):
        many = 0
        for wish in wishes():
            for cut in cuts_of(wish):
                found = joint_at(wish, cut)
                self.assertSame(found, plain_joint(wish, cut))
                self.assertTuples(found)
                many += len(found) > 1
        self.assertGreater(many, 50)

    def test_the_past_stands_ahead(self):
        past = ((1, 0, 1), (0, 1, 1))
        wish = Wish(toss_and_show(), past, TOSS_SCRIPTS)
        self.assertSame(joint_at(wish, ((), ())), ((2,),))
        self.assertSame(joint_at(wish, ((), ())), (standing_of(toss_and_show(), past),))

    def test_no_bound_on_weavings(self):
        ways = ((0, 0, 0, 1), (0, 0, 1, 0), (1, 0, 0, 2), (1, 0, 1, 0), (2, 0, 0, 0), (2, 0, 1, 1), (2, 0, 1, 2))
        script = ((0, 0, ((0, 1, ((0, 0, ()),)),)),)
        wish = Wish(Book(3, 1, ways), (), (script, script, ((0, 1, ((0, 1, ((0, 0, ()),)),)),)))
        cut = ((0, 0, 0),) * 3
        self.refuses(TooMany, {"most": 200}, weavings_at, wish, cut)
        self.assertEqual(len(weavings_of(wish, cut)), 1680)
        self.assertSame(joint_at(wish, cut), plain_joint(wish, cut))
        ends = {}
        for weaving in weavings_of(wish, cut):
            ends.setdefault(ends_behind(wish, weaving), weaving)
        self.assertSame(standings_at(wish, cut), tuple(sorted(ends.items())))


class TestJointsOf(Case):

    def test_example(self):
        wish = Wish(toss_and_show(), (), TOSS_SCRIPTS)
        self.assertSame(list(joints_of(wish)), [(((), ()), ((0,),)), (((), (0,)), ((2,),)), (((0,), ()), ((1,),)),
                                                (((0,), (0,)), ((1,), (2,)))])

    def test_all_cuts_in_their_order(self):
        for wish in wishes():
            found = tuple(joints_of(wish))
            self.assertSame(found, tuple((cut, joint_at(wish, cut)) for cut in cuts_of(wish)))
            self.assertTuples(found)

    def test_two_at_a_time(self):
        wish = Wish(toss_and_show(), (), TOSS_SCRIPTS)
        one, other = joints_of(wish), joints_of(wish)
        self.assertSame(next(one), next(other))
        self.assertSame(list(one), list(other))


class TestStandingsAt(Case):

    def test_example(self):
        wish = Wish(toss_and_show(), (), TOSS_SCRIPTS)
        for form in mixed_forms(((0,), (0,))):
            self.assertSame(standings_at(wish, form),
                            (((1,), ((1, 0, 1), (0, 0, 0))), ((2,), ((0, 0, 0), (1, 0, 1)))))
        self.assertSame(standings_at(wish, ((), ())), (((0,), ()),))

    def test_against_all_weavings(self):
        bare, more = 0, 0
        for wish in wishes():
            for cut in cuts_of(wish):
                ends = {}
                for weaving in weavings_of(wish, cut):
                    ends.setdefault(ends_behind(wish, weaving), weaving)
                found = standings_at(wish, cut)
                self.assertSame(found, tuple(sorted(ends.items())))
                self.assertTuples(found)
                self.assertSame(trimmed([standing for standing, _ in found]), joint_at(wish, cut))
                bare += () in ends
                more += len(found) > len(joint_at(wish, cut))
        self.assertGreater(bare, 50)
        self.assertGreater(more, 50)


class TestJointOnward(Case):

    def test_samples(self):
        book = toss_and_show()
        self.assertSame(joint_onward(book, ((1,), (2,)), 0, 0), ((1,),))
        self.assertSame(joint_onward(book, ((1,), (2,)), 1, 0), ((),))
        self.assertSame(joint_onward(book, [[0, 1], [2]], 1, 2), ((),))
        self.assertSame(joint_onward(book, ((),), 0, 0), ((),))

    def test_against_each_standing(self):
        for book, joint in drawn_joints(95, 150):
            for call in range(book.calls):
                for answer in range(3):
                    wanted = plain_onward(book, joint, call, answer)
                    for form in mixed_forms(joint) + mixed_forms(joint[::-1] + joint) + (trimmed(joint),):
                        found = joint_onward(book, form, call, answer)
                        self.assertSame(found, wanted)
                        self.assertTuples(found)

    def test_errors_in_their_order(self):
        for thing in NOT_JOINTS:
            self.refuses(BadJoint, {}, joint_onward, toss_and_show(), thing, 9, 9)
        for thing in NOT_NUMBERS + (2, -1, 10 ** 100):
            self.refuses(BadCall, {}, joint_onward, toss_and_show(), ((0,),), thing, 9)
        for thing in NOT_NUMBERS + (3, -1, 10 ** 100):
            self.refuses(BadAnswer, {}, joint_onward, toss_and_show(), ((0,),), 1, thing)


class TestWhatHolds(Case):
    """[3.15]."""

    def test_a_cut_down(self):
        for wish in wishes():
            for depth in range(4):
                less = cut_down(wish, depth)
                for cut, joint in joints_of(less):
                    self.assertSame(joint, joint_at(wish, cut))

    def test_a_without_a_hand(self):
        for wish in wishes():
            for hand in range(len(wish.scripts) if len(wish.scripts) > 1 else 0):
                for cut, joint in joints_of(without_hand(wish, hand)):
                    self.assertSame(joint, joint_at(wish, cut[:hand] + ((),) + cut[hand:]))

    def test_a_hands_change_places(self):
        for wish in wishes():
            for order in permutations(range(len(wish.scripts))):
                other = Wish(wish.book, wish.past, [wish.scripts[hand] for hand in order])
                for cut in cuts_of(wish):
                    self.assertSame(joint_at(other, [cut[hand] for hand in order]), joint_at(wish, cut))

    def test_b_from_cuts_of_one_size_less(self):
        for wish in wishes():
            led = {}
            for cut, joint in joints_of(wish):
                for hand, call, answer in heads_at(wish, cut):
                    onward = joint_onward(wish.book, joint, call, answer)
                    led.setdefault(cut_with(cut, hand, call), []).extend(onward)
                    for standing in onward:
                        self.assertTrue(holds_one(standing, joint_at(wish, cut_with(cut, hand, call))))
            for cut, joint in joints_of(wish):
                if cut_size(cut) > 0:
                    self.assertSame(joint, trimmed(led[cut]))

    def test_c_one_script_alone(self):
        for wish in wishes():
            for script in wish.scripts:
                alone = Wish(wish.book, wish.past, (script,))
                joints = [joint for _, joint in joints_of(alone)]
                self.assertEqual({len(joint) for joint in joints}, {1})
                self.assertIs(((),) in joints, alone_fault(alone) is not None)

    def test_d_onward_is_one_entry_more(self):
        for wish in wishes()[::4]:
            for cut in cuts_of(wish)[::3]:
                for call in range(wish.book.calls):
                    for answer in range(3):
                        ends = [ends_behind(wish, row + ((8, call, answer),)) for row in weavings_of(wish, cut)]
                        self.assertSame(joint_onward(wish.book, joint_at(wish, cut), call, answer), plain_trimmed(ends))

    def test_e_one_hand_goes_ahead(self):
        tried = 0
        for wish in wishes():
            for cut in cuts_of(wish):
                hands = [hand for hand, turn in enumerate(cut) if turn]
                if len(hands) != 1:
                    continue
                hand = hands[0]
                past = wish.past + plain_entries(wish.scripts[hand], hand, cut[hand])
                if len(past) > 6 or not is_right(wish.book, past):
                    continue
                scripts = list(wish.scripts)
                scripts[hand] = script_behind(scripts[hand], cut[hand])
                later = Wish(wish.book, past, scripts)
                for rest, joint in joints_of(later):
                    old = rest[:hand] + (cut[hand] + rest[hand],) + rest[hand + 1:]
                    tried += 1
                    for standing in joint:
                        self.assertTrue(holds_one(standing, joint_at(wish, old)))
        self.assertGreater(tried, 200)


class TestKeptThings(Case):

    def test_what_is_passed_stays(self):
        wish = Wish(toss_and_show(), (), TOSS_SCRIPTS)
        cut, joint = [[0], [0]], [[2], [0, 2], [1]]
        joint_at(wish, cut)
        standings_at(wish, cut)
        joint_onward(toss_and_show(), joint, 0, 0)
        self.assertSame((cut, joint), ([[0], [0]], [[2], [0, 2], [1]]))
        self.assertEqual(wish, Wish(toss_and_show(), (), as_lists(TOSS_SCRIPTS)))

    def test_full_scripts_of_one_hand(self):
        wish = Wish(full_book(6, 4), (), (full_script(4, 3),))
        self.assertEqual(len(list(joints_of(wish))), 85)
        self.assertSame(joint_at(wish, ((3, 3, 3),)), ((0, 1, 2, 3, 4, 5),))
