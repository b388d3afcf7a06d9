"""Exchanged asks, rows of asks in which hands meet, and the scripts that a program lets each hand hear alone."""

from unmetcells.books import is_call
from unmetcells.errors import BadDepth, BadLots
from unmetcells.kinds import is_from, is_sequence
from unmetcells.scripts import MOST_DEPTH, MOST_SCRIPTS
from unmetcells.steps import check_ask, do_step, meeting_of, run_program


class Exchange:
    """What two asks lead to in the one order and in the other, and a cell at which they meet."""

    def __init__(self, ahead, behind, meets):
        self.ahead = ahead
        self.behind = behind
        self.meets = meets

    def __eq__(self, other):
        return (isinstance(other, Exchange) and self.ahead == other.ahead
                and self.behind == other.behind and self.meets == other.meets)


def exchange(program, cells, one, other):
    """Do two asks in both orders, each time from these cells."""
    for hand, call in (one, other):
        check_ask(program.calls, hand, call)
    first, marks, between = do_step(program, cells, one[0], one[1])
    second, later_marks, end = do_step(program, between, other[0], other[1])
    turned_second, _, turned_between = do_step(program, cells, other[0], other[1])
    turned_first, _, turned_end = do_step(program, turned_between, one[0], one[1])
    return Exchange((first, second, end), (turned_first, turned_second, turned_end), meeting_of(marks, later_marks))


def checked_lots(calls, lots):
    """Return the calls of each lot, ascending and each once, or raise BadLots."""
    if not is_sequence(lots) or not 1 <= len(lots) <= MOST_SCRIPTS:
        raise BadLots(-1)
    for hand, lot in enumerate(lots):
        if not is_sequence(lot) or not all([is_call(calls, call) for call in lot]):
            raise BadLots(hand)
    return [sorted(set(lot)) for lot in lots]


def values_of(cells):
    """Return a key that is equal for equal cells of one program."""
    return tuple([cells[name] for name in sorted(cells)])


def met_ask(program, cells, ask, asks):
    """Return the first of the asks, by another hand, whose step behind this ask meets its step, or None."""
    _, marks, between = do_step(program, cells, ask[0], ask[1])
    for hand, call in asks:
        if hand != ask[0]:
            _, later_marks, _ = do_step(program, between, hand, call)
            if meeting_of(marks, later_marks) is not None:
                return (hand, call)
    return None


def meet_fault(foreign, past, lots):
    """Return the least row of asks behind the past, each of its hand's lot, whose last two steps meet, or None."""
    begin = run_program(foreign, past).cells
    asks = [(hand, call) for hand, lot in enumerate(checked_lots(foreign.calls, lots)) for call in lot]
    # Cells are found, and so looked at, in the order of their least rows: the first row that meets is the least one.
    queue = [(begin, ())]
    seen = {values_of(begin): True}
    at = 0
    while at < len(queue):
        cells, row = queue[at]
        at += 1
        for ask in asks:
            met = met_ask(foreign, cells, ask, asks)
            if met is not None:
                return row + (ask, met)
            _, _, behind = do_step(foreign, cells, ask[0], ask[1])
            if values_of(behind) not in seen:
                seen[values_of(behind)] = True
                queue.append((behind, row + (ask,)))
    return None


def script_heard(program, cells, hand, lot, depth):
    """Return the script of this depth that the hand alone hears from these cells, with all calls of the lot."""
    if depth == 0:
        return ()
    rows = []
    for call in lot:
        answer, _, behind = do_step(program, cells, hand, call)
        rows.append((call, answer, script_heard(program, behind, hand, lot, depth - 1)))
    return tuple(rows)


def scripts_of(program, past, lots, depth):
    """Return, for each lot, the script that its hand alone hears behind the past."""
    cells = run_program(program, past).cells
    checked = checked_lots(program.calls, lots)
    if not is_from(depth, 0, MOST_DEPTH):
        raise BadDepth()
    return tuple([script_heard(program, cells, hand, lot, depth) for hand, lot in enumerate(checked)])
