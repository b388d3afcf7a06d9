"""Foreign programs, which are given as tables."""

from unmetcells.books import MOST_CALLS, is_answer
from unmetcells.errors import BadForeign
from unmetcells.kinds import is_from, is_row, is_sequence, word_of
from unmetcells.steps import check_ask

CELLS = ("c0", "c1", "c2")
MOST_VALUES = 3
MOST_TOUCHES = 5
# Each word of a deed with the number of its items.
DEEDS = {"say": 2, "read": 3, "write": 4}
HANDS = 4


def check_frame(sizes, rows):
    """Raise BadForeign if the sizes, or the rows but for their deeds, are at fault."""
    if not is_sequence(sizes) or not 1 <= len(sizes) <= len(CELLS):
        raise BadForeign(-1, -1, "sizes")
    if not all([is_from(size, 1, MOST_VALUES) for size in sizes]):
        raise BadForeign(-1, -1, "sizes")
    if not is_row(rows, HANDS):
        raise BadForeign(-1, -1, "rows")
    for hand, deeds in enumerate(rows):
        if not is_sequence(deeds) or not 1 <= len(deeds) <= MOST_CALLS or len(deeds) != len(rows[0]):
            raise BadForeign(hand, -1, "calls")


def deed_word(sizes, deed, above):
    """Return the word of the first fault of a deed, without what is below it, or None.

    `above` is the number of reads and writes above it.
    """
    if word_of(deed) not in DEEDS or len(deed) != DEEDS[deed[0]]:
        return "shape"
    if deed[0] == "say":
        return None if is_answer(deed[1]) else "answer"
    if above == MOST_TOUCHES:
        return "depth"
    if not is_from(deed[1], 0, len(sizes) - 1):
        return "cell"
    size = sizes[deed[1]]
    if deed[0] == "read":
        return None if is_row(deed[2], size) else "deeds"
    return None if is_from(deed[2], 0, size - 1) else "value"


def checked_deed(sizes, hand, call, deed, above):
    """Return the deed as tuples, or raise BadForeign at its first fault, from the top down."""
    what = deed_word(sizes, deed, above)
    if what is not None:
        raise BadForeign(hand, call, what)
    if deed[0] == "say":
        return tuple(deed)
    if deed[0] == "read":
        below = [checked_deed(sizes, hand, call, lesser, above + 1) for lesser in deed[2]]
        return ("read", deed[1], tuple(below))
    return ("write", deed[1], deed[2], checked_deed(sizes, hand, call, deed[3], above + 1))


class Foreign:
    """A program with one deed for each hand and call; the last row serves all hands from 3 on."""

    def __init__(self, sizes, rows):
        check_frame(sizes, rows)
        table = []
        for hand, deeds in enumerate(rows):
            table.append(tuple([checked_deed(sizes, hand, call, deed, 0) for call, deed in enumerate(deeds)]))
        self.sizes = tuple(sizes)
        self.rows = tuple(table)
        self.calls = len(rows[0])

    def __eq__(self, other):
        return isinstance(other, Foreign) and self.sizes == other.sizes and self.rows == other.rows

    def first_cells(self):
        """Return a new dict from the name of each cell to its first value."""
        return {CELLS[cell]: 0 for cell in range(len(self.sizes))}

    def step(self, read, write, hand, call):
        """Do the step of a hand that makes a call, and return its answer."""
        check_ask(self.calls, hand, call)
        deed = self.rows[min(hand, HANDS - 1)][call]
        while deed[0] != "say":
            name = CELLS[deed[1]]
            if deed[0] == "read":
                deed = deed[2][read(name)]
            else:
                write(name, deed[2])
                deed = deed[3]
        return deed[1]
