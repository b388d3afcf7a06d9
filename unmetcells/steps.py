"""Asks, steps and their marks, runs of programs, and meetings."""

from unmetcells.books import is_call
from unmetcells.errors import BadAsks, BadCall, BadHand
from unmetcells.histories import MOST_HAND
from unmetcells.kinds import is_from, is_row, is_sequence

MOST_ASKS = 200


class Run:
    """What a program did: its entries, the marks of its steps, and its cells at the end."""

    def __init__(self, entries, marks, cells):
        self.entries = entries
        self.marks = marks
        self.cells = cells

    @property
    def answers(self):
        """The answers of the entries, in order."""
        return tuple([entry[2] for entry in self.entries])

    def __eq__(self, other):
        return (isinstance(other, Run) and self.entries == other.entries
                and self.marks == other.marks and self.cells == other.cells)


def is_hand(thing):
    """Tell whether the thing is a hand."""
    return is_from(thing, 0, MOST_HAND)


def check_ask(calls, hand, call):
    """Raise BadHand or BadCall if no hand may make this call of a program with so many calls."""
    if not is_hand(hand):
        raise BadHand()
    if not is_call(calls, call):
        raise BadCall()


def check_asks(calls, asks):
    """Return the asks as a tuple of couples, or raise BadAsks."""
    if not is_sequence(asks) or len(asks) > MOST_ASKS:
        raise BadAsks(0)
    for index, ask in enumerate(asks):
        if not is_row(ask, 2) or not is_hand(ask[0]) or not is_call(calls, ask[1]):
            raise BadAsks(index)
    return tuple([tuple(ask) for ask in asks])


def do_step(program, cells, hand, call):
    """Do one step on a copy of the cells and return the triple (answer, marks, cells behind the step)."""
    held = dict(cells)
    reads = {}
    writes = {}

    def read(name):
        reads[name] = True
        return held[name]

    def write(name, value):
        writes[name] = True
        held[name] = value

    answer = program.step(read, write, hand, call)
    return (answer, (tuple(sorted(reads)), tuple(sorted(writes))), held)


def run_program(program, asks, cells=None):
    """Let the program do the asks one after another, from these cells or else from its first ones."""
    checked = check_asks(program.calls, asks)
    if cells is None:
        held = program.first_cells()
    else:
        held = dict(cells)
    entries = []
    rows = []
    for hand, call in checked:
        answer, marks, held = do_step(program, held, hand, call)
        entries.append((hand, call, answer))
        rows.append(marks)
    return Run(tuple(entries), tuple(rows), held)


def meeting_of(one, other):
    """Return the least cell that is written in one of two marks and read or written in the other, or None."""
    names = [name for name in one[1] if name in other[0] or name in other[1]]
    names.extend([name for name in other[1] if name in one[0]])
    return min(names, default=None)


def meetings_in(run, begin=0):
    """Return, ascending, the triples (i, j, cell) of steps of unlike hands from `begin` on that meet."""
    found = []
    for at in range(begin, len(run.entries)):
        for later in range(at + 1, len(run.entries)):
            if run.entries[at][0] != run.entries[later][0]:
                cell = meeting_of(run.marks[at], run.marks[later])
                if cell is not None:
                    found.append((at, later, cell))
    return tuple(found)
