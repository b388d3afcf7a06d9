"""Standings and trails, and the searches that follow trails from standing to standing."""

from unmetcells.books import ANSWERS, is_answer, is_call
from unmetcells.errors import BadAnswer, BadCall, BadStanding, BadTrail
from unmetcells.histories import calls_of, check_history
from unmetcells.kinds import is_from, is_row, is_sequence

START = (0,)
MOST_COUPLES = 400


def is_standing(book, thing):
    """Tell whether the thing is a standing of the book."""
    if not is_sequence(thing):
        return False
    least = 0
    for state in thing:
        if not is_from(state, least, book.states - 1):
            return False
        least = state + 1
    return True


def check_standing(book, standing):
    """Return the standing as a tuple, or raise BadStanding."""
    if not is_standing(book, standing):
        raise BadStanding()
    return tuple(standing)


def has_lesser(standings, greater):
    """Tell whether all states of some standing belong to the greater one."""
    for standing in standings:
        if all([state in greater for state in standing]):
            return True
    return False


def standing_behind(book, standing, trail):
    """Return the standing after all couples of a trail; nothing is checked."""
    for call, answer in trail:
        standing = book.ends_from(standing, call, answer)
    return standing


def standing_of(book, history):
    """Return the states in which walks with the calls and answers of the history end."""
    return standing_behind(book, START, calls_of(check_history(book, history)))


def is_right(book, history):
    """Tell whether the history is right."""
    return standing_of(book, history) != ()


def wrong_at(book, history):
    """Return the index of the first entry behind which no walk is left, or None."""
    standing = START
    for index, (call, answer) in enumerate(calls_of(check_history(book, history))):
        standing = book.ends_from(standing, call, answer)
        if standing == ():
            return index
    return None


def onward(book, standing, call, answer):
    """Return the standing that the call with this answer leads to."""
    checked = check_standing(book, standing)
    if not is_call(book.calls, call):
        raise BadCall()
    if not is_answer(answer):
        raise BadAnswer()
    return book.ends_from(checked, call, answer)


def answers_at(book, standing, call):
    """Return the answers, ascending, by which the call leads to some state."""
    checked = check_standing(book, standing)
    if not is_call(book.calls, call):
        raise BadCall()
    return tuple([answer for answer in ANSWERS if book.ends_from(checked, call, answer) != ()])


def check_trail(book, trail):
    """Return the trail as a tuple of tuples, or raise BadTrail."""
    if not is_sequence(trail):
        raise BadTrail(0)
    if len(trail) > MOST_COUPLES:
        raise BadTrail(len(trail))
    for index, couple in enumerate(trail):
        if not is_row(couple, 2) or not is_call(book.calls, couple[0]) or not is_answer(couple[1]):
            raise BadTrail(index)
    return tuple([tuple(couple) for couple in trail])


def onward_trail(book, standing, trail):
    """Return the standing after all couples of the trail."""
    checked = check_standing(book, standing)
    return standing_behind(book, checked, check_trail(book, trail))


def is_plain(book):
    """Tell whether the book has exactly one way for each state and call."""
    return len(book) == book.states * book.calls


def tells_apart(ahead, behind, both_sides):
    """Tell whether a trail that leads to these standings follows `ahead` alone, or just one of them."""
    if ahead == ():
        return both_sides and behind != ()
    return behind == ()


def least_parting(one, ahead, other, behind, both_sides):
    """Return the least trail that follows `ahead` in `one` but not `behind` in `other`, or None.

    With `both_sides` a trail that follows `behind` alone counts, too.
    """
    # Couples are found, and so looked at, in the order of their least trails: the first one is the least.
    queue = [(ahead, behind)]
    trails = {(ahead, behind): ()}
    at = 0
    while at < len(queue):
        couple = queue[at]
        at += 1
        if tells_apart(couple[0], couple[1], both_sides):
            return trails[couple]
        if couple[0] == ():
            continue
        for call in range(one.calls):
            for answer in ANSWERS:
                led = (one.ends_from(couple[0], call, answer), other.ends_from(couple[1], call, answer))
                if led not in trails:
                    trails[led] = trails[couple] + ((call, answer),)
                    queue.append(led)
    return None


def couples_from(one, other, state, standing):
    """Return all couples (state of `one`, standing of `other`) that one trail leads to, ascending."""
    queue = [(state, standing)]
    seen = {(state, standing): True}
    at = 0
    while at < len(queue):
        walker, ends = queue[at]
        at += 1
        for call in range(one.calls):
            for answer, after in one.steps_from(walker, call):
                led = (after, other.ends_from(ends, call, answer))
                if led not in seen:
                    seen[led] = True
                    queue.append(led)
    return tuple(sorted(queue))
