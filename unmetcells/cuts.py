"""Cuts, which say how far each hand has gone down its script, their heads and their weavings."""

from math import comb

from unmetcells.errors import NoTurn, TooMany
from unmetcells.kinds import is_sequence
from unmetcells.scripts import entries_of, rows_along, script_behind, turns_of

MOST_WEAVINGS = 200


def cut_size(cut):
    """Return the number of calls of all turns together."""
    return sum([len(turn) for turn in cut])


def cuts_among(choices):
    """Return, in the order of cuts, all cuts that take one turn out of each of these rows of turns."""
    cuts = [()]
    for turns in choices:
        cuts = [cut + (turn,) for cut in cuts for turn in turns]
    return tuple(sorted(cuts, key=lambda found: (cut_size(found), found)))


def cuts_of(wish):
    """Return all cuts of the wish in the order of cuts."""
    return cuts_among([turns_of(script) for script in wish.scripts])


def cuts_below(cut):
    """Return, in the order of cuts, all cuts from which the cut can be reached, itself among them."""
    return cuts_among([[turn[:length] for length in range(len(turn) + 1)] for turn in cut])


def check_cut(wish, cut):
    """Return the cut as a tuple of tuples, or raise NoTurn."""
    if not is_sequence(cut):
        raise NoTurn(0)
    for hand, script in enumerate(wish.scripts):
        if hand >= len(cut) or not is_sequence(cut[hand]) or rows_along(script, cut[hand]) is None:
            raise NoTurn(hand)
    if len(cut) > len(wish.scripts):
        raise NoTurn(len(wish.scripts))
    return tuple([tuple(turn) for turn in cut])


def heads_at(wish, cut):
    """Return the entries, ascending, that may come next at the cut."""
    heads = []
    for hand, turn in enumerate(check_cut(wish, cut)):
        for call, answer, _ in script_behind(wish.scripts[hand], turn):
            heads.append((hand, call, answer))
    return tuple(heads)


def couples_of(heads):
    """Return, ascending, the couples of heads of unlike hands, the lesser head first."""
    return [(one, other) for one in heads for other in heads if one[0] < other[0]]


def cut_with(cut, hand, call):
    """Return the cut with the call at the end of the turn of the hand."""
    turns = [tuple(turn) for turn in cut]
    turns[hand] = turns[hand] + (call,)
    return tuple(turns)


def cut_before(cut, hand):
    """Return the cut without the last call of the hand."""
    return cut[:hand] + (cut[hand][:-1],) + cut[hand + 1:]


def weaving_count(cut):
    """Return the number of ways to put the turns together into one row."""
    count = 1
    calls = 0
    for turn in cut:
        calls += len(turn)
        count = count * comb(calls, len(turn))
    return count


def weavings_at(wish, cut):
    """Return the weavings at the cut, ascending."""
    turns = check_cut(wish, cut)
    if weaving_count(turns) > MOST_WEAVINGS:
        raise TooMany(MOST_WEAVINGS)
    return tuple(woven([entries_of(wish, hand, turn) for hand, turn in enumerate(turns)]))


def woven(parts):
    """Return all rows that keep the order within each part, ascending if the parts' hands ascend."""
    if not any(parts):
        return [()]
    rows = []
    for at, part in enumerate(parts):
        if part != ():
            rest = parts[:at] + [part[1:]] + parts[at + 1:]
            rows.extend([part[:1] + row for row in woven(rest)])
    return rows
