"""Full wishes: scripts with all calls at each place, tried with all answers, and refusals where none is had."""

from unmetcells.books import is_call
from unmetcells.cuts import cut_before, cut_size, cut_with
from unmetcells.errors import BadDepth, BadHands, HasFull, TooMany
from unmetcells.foes import plan_fault, plan_rows
from unmetcells.joints import hands_gone, trimmed
from unmetcells.kinds import is_from, is_row, is_sequence, word_of
from unmetcells.safety import JointTable
from unmetcells.scripts import MOST_CUTS, MOST_DEPTH, MOST_SCRIPTS, checked_past
from unmetcells.standings import standing_of

MOST_FILLINGS = 1024
BARRED = "barred"
FILL = "fill"


def full_places(book, hands, depth):
    """Return all places (hand, turn): by the length of the turn, then by the hand, then by the turn."""
    if not is_from(hands, 1, MOST_SCRIPTS):
        raise BadHands(hands)
    if not is_from(depth, 0, MOST_DEPTH):
        raise BadDepth()
    places = []
    turns = [()]
    for _ in range(depth):
        turns = [turn + (call,) for turn in turns for call in range(book.calls)]
        places.extend([(hand, turn) for hand in range(hands) for turn in turns])
    return tuple(places)


def exceeds(base, many, most):
    """Tell whether `base`, taken `many` times as a factor, makes more than `most`."""
    worth = 1
    for _ in range(many):
        worth = worth * base
        if worth > most:
            return True
    return False


def cuts_filled(hands, places):
    """Return, for each place, the cuts that it puts to those of the places ahead of it, in the order of cuts."""
    cuts = [((),) * hands]
    table = []
    for hand, turn in places:
        new = [cut_with(cut, hand, turn[-1]) for cut in cuts if cut[hand] == turn[:-1]]
        table.append(sorted(new, key=lambda cut: (cut_size(cut), cut)))
        cuts = cuts + new
    return table


def checked_full(book, past, hands, depth):
    """Return the past and the places of full scripts, or raise an error."""
    entries = checked_past(book, past)
    places = full_places(book, hands, depth)
    if exceeds(len(book.answers), len(places), MOST_FILLINGS):
        raise TooMany(MOST_FILLINGS)
    if exceeds(1 + len(full_places(book, 1, depth)), hands, MOST_CUTS):
        raise TooMany(MOST_CUTS)
    return (entries, places)


class Filling:
    """The places of full scripts, filled in their order, and the joints at the cuts of the filled scripts.

    What belongs to a place that is not filled now is left over from an earlier filling, and is not looked at.
    """

    def __init__(self, book, past, hands, depth):
        entries, self.places = checked_full(book, past, hands, depth)
        self.book = book
        self.hands = hands
        self.table = JointTable(book)
        self.numbers = {place: number for number, place in enumerate(self.places)}
        self.cuts = cuts_filled(hands, self.places)
        self.given = [0 for _ in self.places]
        self.joints = {((),) * hands: (standing_of(book, entries),)}

    def fill(self, number, answer):
        """Give the answer to the place with this number; all places ahead of it are filled."""
        self.given[number] = answer
        for cut in self.cuts[number]:
            self.joints[cut] = self.joint_among(cut)

    def joint_among(self, cut):
        """Return the joint at a cut, made of the joints at the cuts of one size less."""
        found = []
        for hand in hands_gone(cut):
            answer = self.given[self.numbers[(hand, cut[hand])]]
            for standing in self.joints[cut_before(cut, hand)]:
                found.append(self.book.ends_from(standing, cut[hand][-1], answer))
        return trimmed(found)

    def barred_cut(self, number):
        """Return the first barred cut among those that the place with this number has put, or None."""
        for cut in self.cuts[number]:
            self.table.learn(self.joints[cut])
            if self.table.is_barred(self.joints[cut]):
                return cut
        return None

    def is_cut(self, filled, thing):
        """Tell whether the thing is a cut of the scripts while so many places are filled."""
        if not is_row(thing, self.hands):
            return False
        for hand, turn in enumerate(thing):
            if not is_sequence(turn) or not all([is_call(self.book.calls, call) for call in turn]):
                return False
            if len(turn) > 0 and self.numbers.get((hand, tuple(turn)), filled) >= filled:
                return False
        return True

    def script_at(self, hand, turn):
        """Return the script of the hand behind the turn; all places are filled."""
        rows = []
        for call in range(self.book.calls):
            number = self.numbers.get((hand, turn + (call,)), None)
            if number is not None:
                rows.append((call, self.given[number], self.script_at(hand, turn + (call,))))
        return tuple(rows)


def is_filled(filling, number):
    """Fill the places from this number on with the least answers by which no cut is barred, if there are any."""
    if number == len(filling.places):
        return True
    for answer in filling.book.answers:
        filling.fill(number, answer)
        if filling.barred_cut(number) is None and is_filled(filling, number + 1):
            return True
    return False


def filled_scripts(filling):
    """Return the scripts of the first filling that is had, or None."""
    # Rows that are put to scripts leave the joints as they are, so a barred cut stays barred in all that follows.
    if not is_filled(filling, 0):
        return None
    return tuple([filling.script_at(hand, ()) for hand in range(filling.hands)])


def full_wish(book, past, hands, depth):
    """Return the scripts of the first filling for which the wish is had, or None."""
    return filled_scripts(Filling(book, past, hands, depth))


def refusal_at(filling, number):
    """Return the refusal where the places ahead of this number are filled and no cut is barred."""
    parts = []
    for answer in filling.book.answers:
        filling.fill(number, answer)
        cut = filling.barred_cut(number)
        if cut is None:
            parts.append((answer, refusal_at(filling, number + 1)))
        else:
            parts.append((answer, (BARRED, cut, plan_rows(filling.table, filling.joints[cut]))))
    return (FILL, tuple(parts))


def full_refusal(book, past, hands, depth):
    """Return a refusal at the bare scripts; raise HasFull if there is a full wish."""
    filling = Filling(book, past, hands, depth)
    scripts = filled_scripts(filling)
    if scripts is not None:
        raise HasFull(scripts)
    return refusal_at(filling, 0)


def has_barred(filling, number, refusal):
    """Tell whether a refusal with the word "barred" is one where the places ahead of this number are filled."""
    if len(refusal) != 3 or not filling.is_cut(number, refusal[1]):
        return False
    joint = filling.joints[tuple([tuple(turn) for turn in refusal[1]])]
    return plan_fault(filling.book, joint, refusal[2]) is None


def has_parts(filling, number, refusal):
    """Tell whether a refusal with the word "fill" has one part for each answer, and a place to fill."""
    if len(refusal) != 2 or number == len(filling.places) or not is_row(refusal[1], len(filling.book.answers)):
        return False
    for part, answer in zip(refusal[1], filling.book.answers):
        if not is_row(part, 2) or not is_from(part[0], answer, answer):
            return False
    return True


def refusal_fault(filling, number, refusal):
    """Return the number of places that are filled at the first fault, or None; `number` of them are filled here."""
    word = word_of(refusal)
    if word == BARRED:
        return None if has_barred(filling, number, refusal) else number
    if word != FILL or not has_parts(filling, number, refusal):
        return number
    for answer, lesser in refusal[1]:
        filling.fill(number, answer)
        fault = refusal_fault(filling, number + 1, lesser)
        if fault is not None:
            return fault
    return None


def full_refusal_fault(book, past, hands, depth, refusal):
    """Return None if the refusal is one at the bare scripts, else the answers given ahead of its first fault."""
    filling = Filling(book, past, hands, depth)
    filled = refusal_fault(filling, 0, refusal)
    if filled is None:
        return None
    return tuple(filling.given[:filled])


def deepest(book, past, hands, most):
    """Return the greatest depth up to `most` for which there is a full wish."""
    checked_full(book, past, hands, most)
    depth = 0
    # A full wish holds one of each lesser depth, so behind the first depth without one there is none.
    while depth < most and full_wish(book, past, hands, depth + 1) is not None:
        depth += 1
    return depth
