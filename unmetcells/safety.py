"""Safe and barred joints, their ranks, kept answers and lots."""

from unmetcells.books import is_call
from unmetcells.errors import BadCall, BadCalls, BadLot, BadMost, NotSafe, TooMany
from unmetcells.joints import check_joint, is_joint, led_onward, trimmed
from unmetcells.kinds import is_from, is_sequence

DEAD = ((),)
MOST_JOINTS = 300
MOST_RUN = 200


class JointTable:
    """The joints of a book that were looked at, what they lead to, and which of them are safe."""

    def __init__(self, book):
        self.book = book
        self.leads = {}
        self.ranks = {}

    def leads_of(self, joint):
        """Return, for each call, the joints onward, one for each answer of the book."""
        if joint not in self.leads:
            self.leads[joint] = tuple([self.led_by(joint, call) for call in range(self.book.calls)])
        return self.leads[joint]

    def led_by(self, joint, call):
        """Return the joints to which the call leads, one for each answer of the book."""
        return tuple([led_onward(self.book, joint, call, answer) for answer in self.book.answers])

    def reached_from(self, joint, most):
        """Return the joints that are reached from the joint, or raise TooMany."""
        reached = {joint: True}
        waiting = [joint]
        while waiting:
            leads = self.leads_of(waiting.pop())
            for row in leads:
                for led in row:
                    if led not in reached:
                        reached[led] = True
                        waiting.append(led)
            if len(reached) > most:
                raise TooMany(most)
        return sorted(reached)

    def learn(self, joint):
        """Find the ranks of all joints that are reached from the joint, or raise TooMany."""
        # Whatever is reached from a joint that is known was counted and ranked with it.
        if joint in self.ranks:
            return
        reached = self.reached_from(joint, MOST_JOINTS)
        ranks = ranks_among(self.leads, reached)
        for found in reached:
            self.ranks[found] = ranks.get(found)

    def is_barred(self, joint):
        """Tell whether a joint that was learnt, or is reached from one, is barred."""
        return self.ranks[joint] is not None

    def kept_lead(self, joint, call):
        """Return the least answer that leads a safe joint to a safe one, and that one."""
        for answer, led in zip(self.book.answers, self.leads[joint][call]):
            if not self.is_barred(led):
                return (answer, led)
        raise NotSafe()

    def kept_joints(self, joint):
        """Return the joints to which kept answers lead from a safe joint, ascending."""
        kept = {joint: True}
        waiting = [joint]
        while waiting:
            ahead = waiting.pop()
            for call in range(self.book.calls):
                _, led = self.kept_lead(ahead, call)
                if led not in kept:
                    kept[led] = True
                    waiting.append(led)
        return tuple(sorted(kept))


def ranks_among(leads, reached):
    """Return the ranks of the barred ones of these joints; all that they lead to is among them."""
    ranks = {}
    rank = 0
    rest = reached
    driven = [joint for joint in reached if joint == DEAD]
    while driven != []:
        for joint in driven:
            ranks[joint] = rank
        rank += 1
        rest = [joint for joint in rest if joint not in ranks]
        driven = [joint for joint in rest if is_driven(leads[joint], ranks)]
    return ranks


def is_driven(leads, ranks):
    """Tell whether by some call all joints onward have a rank."""
    return any([all([led in ranks for led in row]) for row in leads])


def learnt_table(book, joint):
    """Return a table in which the joint is learnt; the joint is checked and trimmed already."""
    table = JointTable(book)
    table.learn(joint)
    return table


def joints_from(book, joint, most=300):
    """Return all joints that are reached from the joint, ascending."""
    checked = check_joint(book, joint)
    if not is_from(most, 1, MOST_JOINTS):
        raise BadMost(most)
    return tuple(JointTable(book).reached_from(checked, most))


def is_safe(book, joint):
    """Tell whether the joint is safe."""
    checked = check_joint(book, joint)
    return not learnt_table(book, checked).is_barred(checked)


def safe_joints(book, joint):
    """Return the safe ones of the joints that are reached from the joint, ascending."""
    ranks = learnt_table(book, check_joint(book, joint)).ranks
    return tuple(sorted([found for found in ranks if ranks[found] is None]))


def rank_of(book, joint):
    """Return the rank of the joint, or None if it is safe."""
    checked = check_joint(book, joint)
    return learnt_table(book, checked).ranks[checked]


def kept_answer(book, joint, call):
    """Return the least answer that leads onward to a safe joint."""
    checked = check_joint(book, joint)
    if not is_call(book.calls, call):
        raise BadCall()
    answer, _ = safe_table(book, checked).kept_lead(checked, call)
    return answer


def safe_table(book, joint):
    """Return a table in which the joint is learnt, or raise NotSafe if it is barred."""
    table = learnt_table(book, joint)
    if table.is_barred(joint):
        raise NotSafe()
    return table


def check_calls_of(book, calls):
    """Raise BadCalls if these are not at most 200 calls of the book."""
    if not is_sequence(calls):
        raise BadCalls(0)
    if len(calls) > MOST_RUN:
        raise BadCalls(len(calls))
    for index, call in enumerate(calls):
        if not is_call(book.calls, call):
            raise BadCalls(index)


def kept_run(book, joint, calls):
    """Return the kept answers to the calls, one after another."""
    present = check_joint(book, joint)
    check_calls_of(book, calls)
    table = safe_table(book, present)
    answers = []
    for call in calls:
        answer, present = table.kept_lead(present, call)
        answers.append(answer)
    return tuple(answers)


def kept_lot(book, joint):
    """Return all joints to which kept answers lead from the joint, ascending."""
    checked = check_joint(book, joint)
    return safe_table(book, checked).kept_joints(checked)


def checked_lot(book, lot):
    """Return the joints of the lot, trimmed, or raise BadLot."""
    if not is_sequence(lot):
        raise BadLot(0)
    if len(lot) > MOST_JOINTS:
        raise BadLot(len(lot))
    for index, item in enumerate(lot):
        if not is_joint(book, item):
            raise BadLot(index)
    return [trimmed(item) for item in lot]


def lot_fault(book, joint, lot):
    """Return None if the lot shows that the joint is safe, else its first fault."""
    checked = check_joint(book, joint)
    joints = checked_lot(book, lot)
    if checked not in joints:
        return ("start",)
    for index, item in enumerate(joints):
        if item == DEAD:
            return ("dead", index)
    within = {item: True for item in joints}
    table = JointTable(book)
    for index, item in enumerate(joints):
        for call, row in enumerate(table.leads_of(item)):
            if not any([led in within for led in row]):
                return ("call", index, call)
    return None
