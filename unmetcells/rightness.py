"""Whether a program is right for a book, for rows of asks of any length."""

from unmetcells.covers import check_calls
from unmetcells.errors import BadHands, TooMany
from unmetcells.histories import MOST_HAND
from unmetcells.kinds import is_from
from unmetcells.standings import START
from unmetcells.steps import do_step

MOST_COUPLES = 2000


class Search:
    """The couples of cells and a standing other than () that rows of asks reach, in the order of their least rows."""

    def __init__(self, cells):
        self.names = sorted(cells)
        self.couples = [(cells, START)]
        self.seen = {self.key_of(cells, START): True}
        # How each couple was reached: the number of the one ahead of it, and the ask.
        self.reached_by = [None]

    def key_of(self, cells, standing):
        """Return a key that is equal for equal cells with equal standings."""
        return (tuple([cells[name] for name in self.names]), standing)

    def note(self, cells, standing, at, ask):
        """Put a couple to the others if it is new; the ask leads to it from the couple with the number `at`."""
        key = self.key_of(cells, standing)
        if key in self.seen:
            return
        if len(self.couples) == MOST_COUPLES:
            raise TooMany(MOST_COUPLES)
        self.seen[key] = True
        self.couples.append((cells, standing))
        self.reached_by.append((at, ask))

    def row_to(self, at):
        """Return the least row of asks that leads to the couple with this number."""
        asks = []
        while self.reached_by[at] is not None:
            at, ask = self.reached_by[at]
            asks.append(ask)
        return tuple(asks[::-1])


def wrong_asks(book, program, search, at, asks):
    """Do each of the asks on the couple with this number; note where it leads, and return the wrong ones."""
    cells, standing = search.couples[at]
    wrong = []
    for ask in asks:
        hand, call = ask
        answer, _, behind = do_step(program, cells, hand, call)
        led = book.ends_from(standing, call, answer)
        if led == ():
            wrong.append(ask)
        else:
            search.note(behind, led, at, ask)
    return wrong


def program_fault(book, program, hands=10):
    """Return None if the program is right for the book, else the least row of asks whose history is wrong."""
    check_calls(book, program)
    if not is_from(hands, 1, MOST_HAND + 1):
        raise BadHands(hands)
    asks = [(hand, call) for hand in range(hands) for call in range(book.calls)]
    search = Search(program.first_cells())
    fault = None
    at = 0
    # All couples are looked at even behind a fault: there may be too many of them.
    while at < len(search.couples):
        wrong = wrong_asks(book, program, search, at, asks)
        if fault is None and wrong != []:
            fault = search.row_to(at) + (wrong[0],)
        at += 1
    return fault
