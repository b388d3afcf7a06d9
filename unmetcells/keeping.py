"""Whether a program hears a wish in every weaving without two steps that meet."""

from unmetcells.covers import check_calls
from unmetcells.cuts import couples_of, cut_before, cuts_of, heads_at
from unmetcells.joints import hands_gone
from unmetcells.steps import do_step, meeting_of


class Past:
    """The first entry of the past that is answered otherwise has this index."""

    def __init__(self, index):
        self.index = index

    def __eq__(self, other):
        return isinstance(other, Past) and self.index == other.index


class Unlike:
    """At this cut, this call of the hand is answered otherwise than in its script."""

    def __init__(self, cut, hand, call):
        self.cut = cut
        self.hand = hand
        self.call = call

    def __eq__(self, other):
        return (isinstance(other, Unlike) and self.cut == other.cut
                and self.hand == other.hand and self.call == other.call)


class Meets:
    """At this cut, the steps of two heads (hand, call) meet at this cell."""

    def __init__(self, cut, one, other, cell):
        self.cut = cut
        self.one = one
        self.other = other
        self.cell = cell

    def __eq__(self, other):
        return (isinstance(other, Meets) and self.cut == other.cut and self.one == other.one
                and self.other == other.other and self.cell == other.cell)


def cells_at(program, table, cut):
    """Return the cells of a cut other than that of all bare turns; `table` holds those of the lesser cuts."""
    # The entries are asked hand after hand, so the last one is that of the last hand that has gone.
    last = hands_gone(cut)[-1]
    _, _, cells = do_step(program, table[cut_before(cut, last)], last, cut[last][-1])
    return cells


def fault_at(wish, program, cut, cells):
    """Return the first fault of the heads of the cut, each done at these cells, or None."""
    heads = heads_at(wish, cut)
    marks = {}
    for head in heads:
        hand, call, wanted = head
        answer, marks[head], _ = do_step(program, cells, hand, call)
        if answer != wanted:
            return Unlike(cut, hand, call)
    for one, other in couples_of(heads):
        cell = meeting_of(marks[one], marks[other])
        if cell is not None:
            return Meets(cut, one[:2], other[:2], cell)
    return None


def kept_fault(wish, program):
    """Return None if the program keeps the wish, else its first fault."""
    check_calls(wish.book, program)
    cells = program.first_cells()
    for index, (hand, call, wanted) in enumerate(wish.past):
        answer, _, cells = do_step(program, cells, hand, call)
        if answer != wanted:
            return Past(index)
    table = {}
    for cut in cuts_of(wish):
        if hands_gone(cut) != []:
            cells = cells_at(program, table, cut)
        table[cut] = cells
        fault = fault_at(wish, program, cut, cells)
        if fault is not None:
            return fault
    return None
