"""Histories that are parted into stretches, within which hands make their entries in any order."""

from unmetcells.cuts import woven
from unmetcells.errors import BadSeams, NoCounts, NoStretch, NotRight, TooMany
from unmetcells.foes import plan_rows
from unmetcells.histories import check_history, hands_of, part_of
from unmetcells.joints import trimmed
from unmetcells.kinds import chosen_rows, is_from, is_row, is_sequence
from unmetcells.safety import JointTable
from unmetcells.standings import START

MOST_PARTED = 7
MOST_HANDS = 4


class BarredStretch:
    """The first counts of a parted history whose joint is barred, this joint, and a foe's plan of it."""

    def __init__(self, stretch, counts, joint, plan):
        self.stretch = stretch
        self.counts = counts
        self.joint = joint
        self.plan = plan

    def __eq__(self, other):
        return (isinstance(other, BarredStretch) and self.stretch == other.stretch
                and self.counts == other.counts and self.joint == other.joint and self.plan == other.plan)


class Parting:
    """Seams that are had, and the joints at the end of each of their stretches."""

    def __init__(self, seams, joints):
        self.seams = seams
        self.joints = joints

    def __eq__(self, other):
        return isinstance(other, Parting) and self.seams == other.seams and self.joints == other.joints


def check_parted(book, history):
    """Return a history that may be parted as a tuple of tuples, or raise BadHistory or TooMany."""
    entries = check_history(book, history)
    if len(entries) > MOST_PARTED:
        raise TooMany(MOST_PARTED)
    if len(hands_of(entries)) > MOST_HANDS:
        raise TooMany(MOST_HANDS)
    return entries


def check_seams(book, history, seams):
    """Return the seams as a tuple, or raise BadSeams."""
    entries = check_parted(book, history)
    if not is_sequence(seams):
        raise BadSeams()
    least = 1
    for seam in seams:
        if not is_from(seam, least, len(entries) - 1):
            raise BadSeams()
        least = seam + 1
    return tuple(seams)


def parted_at(entries, seams):
    """Return the stretches between these seams; nothing is checked."""
    begins = (0,) + seams
    ends = seams + (len(entries),)
    return tuple([entries[begin:end] for begin, end in zip(begins, ends)])


def stretches_of(book, history, seams):
    """Return the stretches of the history, each a tuple of entries."""
    checked = check_seams(book, history, seams)
    return parted_at(check_parted(book, history), checked)


def parts_of(stretch):
    """Return the entries of each hand of the stretch, hands ascending."""
    return [part_of(stretch, hand) for hand in hands_of(stretch)]


def full_counts(parts):
    """Return the counts of a stretch that is over."""
    return tuple([len(part) for part in parts])


def counts_among(parts):
    """Return all counts of the stretch with these parts, by their sum, then ascending."""
    rows = [()]
    for part in parts:
        rows = [row + (count,) for row in rows for count in range(len(part) + 1)]
    return tuple(sorted(rows, key=lambda row: (sum(row), row)))


def stretch_with(book, history, seams, stretch):
    """Return the stretches of the history up to the one with this number, or raise NoStretch."""
    stretches = stretches_of(book, history, seams)
    if not is_from(stretch, 0, len(stretches) - 1):
        raise NoStretch(stretch)
    return stretches[:stretch + 1]


def counts_of(book, history, seams, stretch):
    """Return all counts of the stretch with this number, by their sum, then ascending."""
    return counts_among(parts_of(stretch_with(book, history, seams, stretch)[-1]))


def woven_rows(book, history, seams):
    """Yield the rows of the parted history, ascending."""
    rows = [()]
    # All weavings of one stretch are equally long, so the rows ascend if those of each stretch do.
    for stretch in stretches_of(book, history, seams):
        weavings = woven(parts_of(stretch))
        rows = [row + weaving for row in rows for weaving in weavings]
    for row in rows:
        yield row


def joint_among(book, parts, joints, counts):
    """Return the joint at counts that are not all 0; `joints` holds those at the counts of one entry less."""
    found = []
    for at, count in enumerate(counts):
        if count > 0:
            _, call, answer = parts[at][count - 1]
            for standing in joints[counts[:at] + (count - 1,) + counts[at + 1:]]:
                found.append(book.ends_from(standing, call, answer))
    return trimmed(found)


def joint_tables(book, stretches):
    """Return, for each stretch, a dict from all its counts, in their order, to the joints there."""
    tables = []
    begin = (START,)
    for stretch in stretches:
        parts = parts_of(stretch)
        joints = {}
        for counts in counts_among(parts):
            if sum(counts) == 0:
                joints[counts] = begin
            else:
                joints[counts] = joint_among(book, parts, joints, counts)
        begin = joints[full_counts(parts)]
        tables.append(joints)
    return tables


def is_counts(parts, thing):
    """Tell whether the thing is one of the counts of the stretch with these parts."""
    if not is_row(thing, len(parts)):
        return False
    return all([is_from(count, 0, len(part)) for count, part in zip(thing, parts)])


def stretch_joint(book, history, seams, stretch, counts):
    """Return the joint at these counts of the stretch with this number."""
    stretches = stretch_with(book, history, seams, stretch)
    if not is_counts(parts_of(stretches[-1]), counts):
        raise NoCounts()
    return joint_tables(book, stretches)[-1][tuple(counts)]


def fault_among(table, tables):
    """Return the fault of stretches with these joints, or None; all joints that are looked at are learnt."""
    for stretch, joints in enumerate(tables):
        for counts, joint in joints.items():
            table.learn(joint)
            if table.is_barred(joint):
                return BarredStretch(stretch, counts, joint, plan_rows(table, joint))
    return None


def stretch_fault(book, history, seams):
    """Return None if the parted history is had, else its first barred counts with the joint and a foe's plan."""
    return fault_among(JointTable(book), joint_tables(book, stretches_of(book, history, seams)))


def all_partings(book, history):
    """Return all seams that are had, those with fewer seams first, then ascending."""
    entries = check_parted(book, history)
    # One table serves all seams, since what a joint leads to does not depend on them.
    table = JointTable(book)
    found = []
    for seams in chosen_rows(list(range(1, len(entries)))):
        if fault_among(table, joint_tables(book, parted_at(entries, seams))) is None:
            found.append(seams)
    return tuple(found)


def lesser_rows(row):
    """Return the rows that are left if one item is taken away."""
    return [row[:at] + row[at + 1:] for at in range(len(row))]


def coarsest_partings(book, history):
    """Return those of all partings from which no seam can be taken."""
    had = all_partings(book, history)
    return tuple([seams for seams in had if not any([lesser in had for lesser in lesser_rows(seams)])])


def fewest_stretches(book, history):
    """Return the first of all partings, with the joint at the end of each stretch."""
    had = all_partings(book, history)
    if had == ():
        raise NotRight()
    stretches = stretches_of(book, history, had[0])
    tables = joint_tables(book, stretches)
    joints = [table[full_counts(parts_of(stretch))] for table, stretch in zip(tables, stretches)]
    return Parting(had[0], tuple(joints))
