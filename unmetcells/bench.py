"""Goals, and the bench on which a wish is edited."""

from unmetcells.edits import edited
from unmetcells.errors import BadDepth, BadGoal, BadHands, BadHistory, NothingDone, TooMany
from unmetcells.foes import is_had
from unmetcells.fullwish import full_places, full_wish
from unmetcells.kinds import as_tuples, is_from, is_sequence, word_of
from unmetcells.stretches import all_partings, check_parted

MOST_GOALS = 20
MOST_PLACES = 6
MOST_SEAMS = 6
HAD = "had"
DEPTH = "depth"
SEAMS = "seams"


def are_few_places(book, hands, depth):
    """Tell whether a goal may have these hands and this depth."""
    try:
        return len(full_places(book, hands, depth)) <= MOST_PLACES
    except (BadHands, BadDepth):
        return False


def may_be_parted(book, history):
    """Tell whether a goal may have this history."""
    try:
        check_parted(book, history)
    except (BadHistory, TooMany):
        return False
    return True


def is_goal(book, thing):
    """Tell whether the thing is a goal for the book."""
    word = word_of(thing)
    if word == HAD:
        return len(thing) == 1
    if word == DEPTH:
        return len(thing) == 3 and are_few_places(book, thing[1], thing[2])
    if word == SEAMS:
        return len(thing) == 3 and may_be_parted(book, thing[1]) and is_from(thing[2], 0, MOST_SEAMS)
    return False


def check_goals(book, goals):
    """Return the goals as tuples through and through, or raise BadGoal."""
    if not is_sequence(goals):
        raise BadGoal(0)
    if len(goals) > MOST_GOALS:
        raise BadGoal(MOST_GOALS)
    for index, goal in enumerate(goals):
        if not is_goal(book, goal):
            raise BadGoal(index)
    return as_tuples(goals)


def is_met(wish, goal):
    """Tell whether the wish meets the goal."""
    if not is_goal(wish.book, goal):
        raise BadGoal(0)
    if goal[0] == HAD:
        return is_had(wish)
    if goal[0] == DEPTH:
        return full_wish(wish.book, wish.past, goal[1], goal[2]) is not None
    return any([len(seams) <= goal[2] for seams in all_partings(wish.book, goal[1])])


def goals_met_by(wish, goals):
    """Return the numbers of the goals that the wish meets, ascending."""
    return tuple([number for number, goal in enumerate(goals) if is_met(wish, goal)])


class Trial:
    """What edits would do: the wish after them, and the numbers of the goals that it meets, wins and loses."""

    def __init__(self, wish, met, won, lost):
        self.wish = wish
        self.met = met
        self.won = won
        self.lost = lost

    def __eq__(self, other):
        return (isinstance(other, Trial) and self.wish == other.wish and self.met == other.met
                and self.won == other.won and self.lost == other.lost)


class Bench:
    """A place on which a wish is edited, row after row, with goals that it may meet."""

    def __init__(self, wish, goals=()):
        self.goals = check_goals(wish.book, goals)
        self.wish = edited(wish, ())
        self.log = ()
        # The wishes ahead of each row of the log.
        self._earlier = ()

    def goals_met(self):
        """Return the numbers of the goals that the present wish meets, ascending."""
        return goals_met_by(self.wish, self.goals)

    def do(self, edits):
        """Do the edits on the present wish, and put them to the log as one row."""
        after = edited(self.wish, edits)
        self._earlier = self._earlier + (self.wish,)
        self.wish = after
        self.log = self.log + (as_tuples(edits),)

    def take_back(self):
        """Take back the last row of the log, and return it."""
        if self.log == ():
            raise NothingDone()
        row = self.log[-1]
        self.log = self.log[:-1]
        self.wish = self._earlier[-1]
        self._earlier = self._earlier[:-1]
        return row

    def trial(self, edits):
        """Return what the edits would do; the bench stays as it is."""
        after = edited(self.wish, edits)
        before = self.goals_met()
        met = goals_met_by(after, self.goals)
        won = tuple([number for number in met if number not in before])
        lost = tuple([number for number in before if number not in met])
        return Trial(after, met, won, lost)
