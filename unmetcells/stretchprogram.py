"""The program of a parted history: right for all calls, and its hands never meet within a stretch."""

from unmetcells.books import Book
from unmetcells.errors import NotHad
from unmetcells.histories import hands_of, part_of
from unmetcells.programs import JOINT, MODE, ONE, kept_table
from unmetcells.safety import JointTable
from unmetcells.steps import check_ask
from unmetcells.stretches import check_parted, check_seams, fault_among, joint_tables, parted_at

STRETCH = "stretch"


def count_name(stretch, hand):
    """Return the name of the cell that holds how many entries of the stretch the hand has made."""
    return f"count {stretch} {hand}"


class StretchProgram:
    """The program of a parted history that is had."""

    def __init__(self, book, history, seams):
        self.seams = check_seams(book, history, seams)
        self.history = check_parted(book, history)
        stretches = parted_at(self.history, self.seams)
        self._joints = joint_tables(book, stretches)
        table = JointTable(book)
        barred = fault_among(table, self._joints)
        if barred is not None:
            raise NotHad(barred)
        self.book = Book(book.states, book.calls, book.ways)
        self.calls = book.calls
        # For each stretch, the entries of each hand that has some there, hands ascending.
        self._parts = [{hand: part_of(stretch, hand) for hand in hands_of(stretch)} for stretch in stretches]
        self._kept = kept_table(table, [joint for joints in self._joints for joint in joints.values()])

    def first_cells(self):
        """Return a new dict from the name of each cell to its first value."""
        cells = {MODE: STRETCH, JOINT: None}
        for stretch, parts in enumerate(self._parts):
            for hand in parts:
                cells[count_name(stretch, hand)] = 0
        return cells

    def step(self, read, write, hand, call):
        """Do the step of a hand that makes a call, and return its answer."""
        check_ask(self.calls, hand, call)
        if read(MODE) == ONE:
            return self._answer_on(write, read(JOINT), call)
        place = self._place_of(read, hand, call)
        if place is None:
            return self._leave(read, write, call)
        stretch, count = place
        # Within the stretch other hands write no cell that is read here, and read none that is written.
        write(count_name(stretch, hand), count + 1)
        return self._parts[stretch][hand][count][2]

    def _place_of(self, read, hand, call):
        """Return the stretch to which the step belongs, with the hand's count there, or None if it leaves the rows."""
        for stretch, parts in enumerate(self._parts):
            if hand in parts:
                count = read(count_name(stretch, hand))
                if count < len(parts[hand]):
                    if parts[hand][count][1] == call and self._are_over(read, stretch, hand):
                        return (stretch, count)
                    return None
        return None

    def _are_over(self, read, stretch, hand):
        """Tell whether all stretches ahead of this one are over; those of the hand itself are."""
        for ahead in range(stretch):
            for maker, part in self._parts[ahead].items():
                if maker != hand and read(count_name(ahead, maker)) < len(part):
                    return False
        return True

    def _leave(self, read, write, call):
        """Answer a call that leaves the rows, and keep nothing but the joint."""
        stretch, counts = self._counts_in(read)
        for at, parts in enumerate(self._parts):
            for hand in parts:
                write(count_name(at, hand), 0)
        write(MODE, ONE)
        return self._answer_on(write, self._joints[stretch][counts], call)

    def _answer_on(self, write, joint, call):
        """Answer the call so that the joint stays safe, and keep the joint that it leads to."""
        answer, led = self._kept[joint][call]
        write(JOINT, led)
        return answer

    def _counts_in(self, read):
        """Return the least stretch that is not over, or else the last one, and its counts."""
        counts = ()
        for stretch, parts in enumerate(self._parts):
            counts = tuple([read(count_name(stretch, hand)) for hand in parts])
            if counts != tuple([len(part) for part in parts.values()]):
                return (stretch, counts)
        return (len(self._parts) - 1, counts)

    def heard(self, read):
        """Return what the cells tell of the run: a stretch with its counts, or a joint."""
        if read(MODE) == ONE:
            return (ONE, read(JOINT))
        stretch, counts = self._counts_in(read)
        return (STRETCH, stretch, counts)
