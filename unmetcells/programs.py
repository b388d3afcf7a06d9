"""The program of own cells: right for all calls, and its hands never meet within the scripts of a wish."""

from unmetcells.errors import NotHad
from unmetcells.foes import fault_within
from unmetcells.joints import joints_of
from unmetcells.safety import JointTable
from unmetcells.scripts import is_scripted, row_with, script_behind
from unmetcells.standings import standing_of
from unmetcells.steps import check_ask

MODE = "mode"
COUNT = "count"
JOINT = "joint"
PAST = "past"
APART = "apart"
ONE = "one"


def turn_name(hand):
    """Return the name of the cell that holds the turn of a scripted hand."""
    return f"turn {hand}"


def joints_of_past(wish):
    """Return the joints of the beginnings of the past, one for each number of entries less than all."""
    return [(standing_of(wish.book, wish.past[:count]),) for count in range(len(wish.past))]


def kept_table(table, joints):
    """Return a dict from each joint that kept answers reach to its couples (answer, joint onward), call by call."""
    kept = {}
    for joint in joints:
        if joint not in kept:
            for found in table.kept_joints(joint):
                kept[found] = tuple([table.kept_lead(found, call) for call in range(table.book.calls)])
    return kept


class UnmetProgram:
    """The program of a wish that is had."""

    def __init__(self, wish):
        table = JointTable(wish.book)
        barred = fault_within(table, wish)
        if barred is not None:
            raise NotHad(barred)
        self.wish = wish
        self.calls = wish.book.calls
        self._past_joints = joints_of_past(wish)
        for joint in self._past_joints:
            # A joint of one standing reaches only such joints, so there are never too many of them.
            table.learn(joint)
        self._cut_joints = {cut: joint for cut, joint in joints_of(wish)}
        self._kept = kept_table(table, self._past_joints + list(self._cut_joints.values()))

    def first_cells(self):
        """Return a new dict from the name of each cell to its first value."""
        cells = {MODE: PAST, COUNT: 0, JOINT: None}
        if self.wish.past == ():
            cells[MODE] = APART
        for hand in range(len(self.wish.scripts)):
            cells[turn_name(hand)] = ()
        return cells

    def step(self, read, write, hand, call):
        """Do the step of a hand that makes a call, and return its answer."""
        check_ask(self.calls, hand, call)
        mode = read(MODE)
        if mode == PAST:
            return self._step_in_past(read, write, hand, call)
        if mode == APART:
            return self._step_apart(read, write, hand, call)
        return self._answer_on(write, read(JOINT), call)

    def _step_in_past(self, read, write, hand, call):
        """Do a step of a run that has not heard the whole past."""
        count = read(COUNT)
        entry = self.wish.past[count]
        if (hand, call) != entry[:2]:
            write(MODE, ONE)
            write(COUNT, 0)
            return self._answer_on(write, self._past_joints[count], call)
        if count + 1 < len(self.wish.past):
            write(COUNT, count + 1)
        else:
            # Whoever leaves the scripts later finds the count at its first value already.
            write(COUNT, 0)
            write(MODE, APART)
        return entry[2]

    def _step_apart(self, read, write, hand, call):
        """Do a step of a run that has heard the past and then entries of the scripts alone."""
        if is_scripted(self.wish, hand):
            turn = read(turn_name(hand))
            row = row_with(script_behind(self.wish.scripts[hand], turn), call)
            if row is not None:
                # Within the scripts other hands write no cell that is read here, and read none that is written.
                write(turn_name(hand), turn + (call,))
                return row[1]
        cut = self._cut_in(read)
        for scripted in range(len(cut)):
            write(turn_name(scripted), ())
        write(MODE, ONE)
        return self._answer_on(write, self._cut_joints[cut], call)

    def _answer_on(self, write, joint, call):
        """Answer the call so that the joint stays safe, and keep the joint that it leads to."""
        answer, led = self._kept[joint][call]
        write(JOINT, led)
        return answer

    def _cut_in(self, read):
        """Return the cut that the turns in the cells tell."""
        return tuple([read(turn_name(hand)) for hand in range(len(self.wish.scripts))])

    def heard(self, read):
        """Return what the cells tell of the run: a place in the past, a cut, or a joint."""
        mode = read(MODE)
        if mode == PAST:
            return (PAST, read(COUNT))
        if mode == APART:
            return (APART, self._cut_in(read))
        return (ONE, read(JOINT))
