"""Joints: the standings of all orders in which a cut may be reached."""

from unmetcells.books import is_answer, is_call
from unmetcells.cuts import check_cut, cut_before, cuts_below, cuts_of
from unmetcells.errors import BadAnswer, BadCall, BadJoint
from unmetcells.kinds import is_sequence
from unmetcells.scripts import entries_of
from unmetcells.standings import has_lesser, is_standing, standing_of

MOST_STANDINGS = 64


def trimmed(standings):
    """Return, ascending, the standings that do not hold all states of another, unlike one."""
    rows = sorted({tuple(standing) for standing in standings})
    kept = []
    # An unlike standing of which all states are held is a shorter one.
    for row in sorted(rows, key=len):
        if not has_lesser(kept, row):
            kept.append(row)
    return tuple(sorted(kept))


def is_joint(book, thing):
    """Tell whether the thing is a joint of the book, trimmed or not."""
    return (is_sequence(thing) and 1 <= len(thing) <= MOST_STANDINGS
            and all([is_standing(book, standing) for standing in thing]))


def check_joint(book, joint):
    """Return the joint, trimmed, or raise BadJoint."""
    if not is_joint(book, joint):
        raise BadJoint()
    return trimmed(joint)


def led_onward(book, joint, call, answer):
    """Return the joint that the call with this answer leads to; nothing is checked."""
    return trimmed([book.ends_from(standing, call, answer) for standing in joint])


def joint_onward(book, joint, call, answer):
    """Return the joint that the call with this answer leads to."""
    checked = check_joint(book, joint)
    if not is_call(book.calls, call):
        raise BadCall()
    if not is_answer(answer):
        raise BadAnswer()
    return led_onward(book, checked, call, answer)


def entry_ahead(wish, cut, hand):
    """Return the last entry that the hand makes on its way to the cut."""
    return entries_of(wish, hand, cut[hand])[-1]


def hands_gone(cut):
    """Return the hands whose turns are not bare, ascending."""
    return [hand for hand, turn in enumerate(cut) if turn != ()]


def joint_among(wish, joints, cut):
    """Return the joint at the cut; `joints` holds those at the cuts of one size less that lead to it."""
    gone = hands_gone(cut)
    if gone == []:
        return (standing_of(wish.book, wish.past),)
    found = []
    for hand in gone:
        _, call, answer = entry_ahead(wish, cut, hand)
        for standing in joints[cut_before(cut, hand)]:
            found.append(wish.book.ends_from(standing, call, answer))
    return trimmed(found)


def joint_at(wish, cut):
    """Return the joint at the cut."""
    turns = check_cut(wish, cut)
    joints = {}
    for lesser in cuts_below(turns):
        joints[lesser] = joint_among(wish, joints, lesser)
    return joints[turns]


def joints_of(wish):
    """Yield the couples (cut, joint at the cut), in the order of cuts."""
    joints = {}
    for cut in cuts_of(wish):
        joints[cut] = joint_among(wish, joints, cut)
        yield (cut, joints[cut])


def weavings_among(wish, tables, cut):
    """Return a dict from each standing at the cut to its least weaving.

    `tables` holds these dicts for the cuts of one size less that lead to it.
    """
    gone = hands_gone(cut)
    if gone == []:
        return {standing_of(wish.book, wish.past): ()}
    found = {}
    for hand in gone:
        entry = entry_ahead(wish, cut, hand)
        for standing, weaving in tables[cut_before(cut, hand)].items():
            led = wish.book.ends_from(standing, entry[1], entry[2])
            # All weavings at one cut are equally long, so the least one to a standing goes on as the least one.
            longer = weaving + (entry,)
            found[led] = min(longer, found.get(led, longer))
    return found


def standings_at(wish, cut):
    """Return, ascending, the couples (standing, least weaving) of all weavings at the cut."""
    turns = check_cut(wish, cut)
    tables = {}
    for lesser in cuts_below(turns):
        tables[lesser] = weavings_among(wish, tables, lesser)
    return tuple(sorted(list(tables[turns].items())))
