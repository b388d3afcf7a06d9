"""Wishes over plain books, judged without joints: by single heads and couples of heads."""

from unmetcells.books import is_call
from unmetcells.cuts import check_cut, couples_of, cuts_of, heads_at
from unmetcells.errors import BadCall, BadState, NotPlain
from unmetcells.kinds import is_from
from unmetcells.likeness import alike_states, parted_by, reached_states
from unmetcells.scripts import entries_of
from unmetcells.standings import is_plain, standing_behind, standing_of


class Clash:
    """What clashes first in a wish over a plain book: its cut, its heads, a word, and a trail."""

    def __init__(self, cut, heads, what, trail):
        self.cut = cut
        self.heads = heads
        self.what = what
        self.trail = trail

    def __eq__(self, other):
        return (isinstance(other, Clash) and self.cut == other.cut and self.heads == other.heads
                and self.what == other.what and self.trail == other.trail)


def check_plain(book):
    """Raise NotPlain if the book is not plain."""
    if not is_plain(book):
        raise NotPlain()


def only_state(standing):
    """Return the one state of a standing of a plain book, or None if it has none."""
    if standing == ():
        return None
    return standing[0]


def plain_state(wish, cut):
    """Return the state behind the past and the turns of the cut, hand after hand, or None."""
    check_plain(wish.book)
    history = wish.past
    for hand, turn in enumerate(check_cut(wish, cut)):
        history = history + entries_of(wish, hand, turn)
    return only_state(standing_of(wish.book, history))


def ends_of_orders(book, state, one, other):
    """Return the states behind two couples (call, answer) in both orders; None for an order that cannot be had."""
    ahead = standing_behind(book, (state,), (one, other))
    behind = standing_behind(book, (state,), (other, one))
    return (only_state(ahead), only_state(behind))


def clash_at(wish, cut, alike):
    """Return what clashes first at the cut, or None; `alike` holds the least alike state of each state."""
    book = wish.book
    state = plain_state(wish, cut)
    heads = heads_at(wish, cut)
    for head in heads:
        if book.ends_from((state,), head[1], head[2]) == ():
            return Clash(cut, (head,), "answer", ())
    for one, other in couples_of(heads):
        ahead, behind = ends_of_orders(book, state, one[1:], other[1:])
        if ahead is not None and behind is not None and alike[ahead] != alike[behind]:
            return Clash(cut, (one, other), "ends", parted_by(book, (ahead,), (behind,)))
    return None


def heads_fault(wish):
    """Return None if nothing clashes in the wish, else what clashes first."""
    check_plain(wish.book)
    alike = alike_states(wish.book)
    for cut in cuts_of(wish):
        clash = clash_at(wish, cut, alike)
        if clash is not None:
            return clash
    return None


def answered(book, state, call):
    """Return the couple of the call and the answer that a plain book gives it at the state."""
    return (call, book.steps_from(state, call)[0][0])


def are_passing(book, alike, state, one, other):
    """Tell whether two calls pass at the state; `alike` holds the least alike state of each state."""
    ahead, behind = ends_of_orders(book, state, answered(book, state, one), answered(book, state, other))
    return ahead is not None and behind is not None and alike[ahead] == alike[behind]


def pass_at(book, state, one, other):
    """Tell whether two calls pass at the state of a plain book."""
    check_plain(book)
    if not is_from(state, 0, book.states - 1):
        raise BadState(state)
    for call in (one, other):
        if not is_call(book.calls, call):
            raise BadCall()
    return are_passing(book, alike_states(book), state, one, other)


def passing_calls(book):
    """Return, ascending, the couples of calls that pass at every state to which a walk leads."""
    check_plain(book)
    alike = alike_states(book)
    reached = reached_states(book)
    found = []
    for one in range(book.calls):
        for other in range(one, book.calls):
            if all([are_passing(book, alike, state, one, other) for state in reached]):
                found.append((one, other))
    return tuple(found)
