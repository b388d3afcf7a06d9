"""Foe's plans, which show that joints are barred, and whether a wish is had."""

from unmetcells.books import is_call
from unmetcells.errors import IsSafe
from unmetcells.joints import check_joint, is_joint, joints_of, trimmed
from unmetcells.kinds import is_row, is_sequence
from unmetcells.safety import DEAD, JointTable, learnt_table

MOST_ROWS = 300


class Barred:
    """The first cut of a wish whose joint is barred, this joint, and a foe's plan of it."""

    def __init__(self, cut, joint, plan):
        self.cut = cut
        self.joint = joint
        self.plan = plan

    def __eq__(self, other):
        return (isinstance(other, Barred) and self.cut == other.cut
                and self.joint == other.joint and self.plan == other.plan)


def joint_in(book, row):
    """Return the joint that stands in a row of a plan, trimmed, or None."""
    if not is_row(row, 2) or not is_joint(book, row[0]):
        return None
    return trimmed(row[0])


def plan_fault(book, joint, plan):
    """Return None if the plan is a foe's plan of the joint, else the index of its first fault."""
    checked = check_joint(book, joint)
    if not is_sequence(plan) or not 1 <= len(plan) <= MOST_ROWS or joint_in(book, plan[0]) != checked:
        return 0
    joints = [joint_in(book, row) for row in plan]
    last = {found: index for index, found in enumerate(joints)}
    table = JointTable(book)
    for index, row in enumerate(plan):
        if joints[index] is None or not is_barring(table, index, joints[index], row[1], last):
            return index
    return None


def is_barring(table, index, joint, call, last):
    """Tell whether the row with this index bars; `last` has the index of the last row of each joint."""
    if joint == DEAD:
        return call is None
    if not is_call(table.book.calls, call):
        return False
    return all([last.get(led, index) > index for led in table.led_by(joint, call)])


def foe_call(table, joint):
    """Return the least call by which all joints onward have lesser ranks than an alive barred joint."""
    for call, row in enumerate(table.leads[joint]):
        if all([table.is_barred(led) and table.ranks[led] < table.ranks[joint] for led in row]):
            return call
    return None


def plan_rows(table, joint):
    """Return the rows of the foe's plan of a barred joint that the table has learnt."""
    calls = {}
    waiting = [joint]
    while waiting:
        ahead = waiting.pop()
        if ahead not in calls:
            # The dead joint has no foe's call, and each lead of it is the dead joint again.
            calls[ahead] = foe_call(table, ahead)
            if calls[ahead] is not None:
                waiting.extend(table.leads[ahead][calls[ahead]])
    return tuple([(found, calls[found]) for found in sorted(calls, key=lambda row: (-table.ranks[row], row))])


def foe_plan(book, joint):
    """Return the foe's plan of the joint."""
    checked = check_joint(book, joint)
    table = learnt_table(book, checked)
    if not table.is_barred(checked):
        raise IsSafe()
    return plan_rows(table, checked)


def fault_within(table, wish):
    """Return the fault of a wish over the table's book, or None; all joints that are looked at are learnt."""
    for cut, joint in joints_of(wish):
        table.learn(joint)
        if table.is_barred(joint):
            return Barred(cut, joint, plan_rows(table, joint))
    return None


def wish_fault(wish):
    """Return None if the wish is had, else its first barred cut with the joint there and a foe's plan."""
    return fault_within(JointTable(wish.book), wish)


def is_had(wish):
    """Tell whether the wish is had."""
    return wish_fault(wish) is None
