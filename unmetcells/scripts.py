"""Scripts, turns and wishes."""

from unmetcells.books import Book, is_answer, is_call
from unmetcells.errors import BadDepth, BadHistory, BadPast, BadScripts, NoTurn, TooMany
from unmetcells.histories import check_history
from unmetcells.kinds import is_from, is_row, is_sequence, is_whole
from unmetcells.standings import is_right

MOST_SCRIPTS = 3
MOST_DEPTH = 3
MOST_PAST = 6
MOST_CUTS = 200


def check_scripts(book, scripts):
    """Return the scripts as tuples through and through, or raise BadScripts."""
    if not is_sequence(scripts) or not 1 <= len(scripts) <= MOST_SCRIPTS:
        raise BadScripts(None, "many")
    return tuple([checked_script(book, hand, script, 1) for hand, script in enumerate(scripts)])


def checked_script(book, hand, script, depth):
    """Return the script, whose rows have this depth, as tuples; raise BadScripts at its first fault."""
    if not is_sequence(script):
        raise BadScripts(hand, "shape")
    rows = []
    least = 0
    for row in script:
        check_row(book, hand, row, depth, least)
        call, answer, behind = row
        rows.append((call, answer, checked_script(book, hand, behind, depth + 1)))
        least = call + 1
    return tuple(rows)


def check_row(book, hand, row, depth, least):
    """Raise BadScripts if the row is at fault; `least` is the least call that it may have."""
    if not is_row(row, 3):
        raise BadScripts(hand, "shape")
    if depth > MOST_DEPTH:
        raise BadScripts(hand, "depth")
    if not is_call(book.calls, row[0]) or row[0] < least:
        raise BadScripts(hand, "call")
    if not is_answer(row[1]):
        raise BadScripts(hand, "answer")


def turns_of(script):
    """Return all turns of the script, ascending."""
    turns = [()]
    for call, _, behind in script:
        for turn in turns_of(behind):
            turns.append((call,) + turn)
    return tuple(turns)


def row_with(script, call):
    """Return the row of the script that has this call, or None."""
    if not is_whole(call):
        return None
    for row in script:
        if row[0] == call:
            return row
    return None


def rows_along(script, turn):
    """Return the rows that the turn goes along, or None if it is no turn of the script."""
    rows = []
    for call in turn:
        row = row_with(script, call)
        if row is None:
            return None
        rows.append(row)
        script = row[2]
    return rows


def script_behind(script, turn):
    """Return the script behind the last row of the turn, or None if it is no turn of the script."""
    rows = rows_along(script, turn)
    if rows is None:
        return None
    if rows == []:
        return script
    return rows[-1][2]


def script_depth(script):
    """Return the greatest depth of a row, 0 for the bare script."""
    return max([1 + script_depth(row[2]) for row in script], default=0)


def cut_script(script, depth):
    """Return the script without all rows that are deeper than `depth`."""
    if not is_from(depth, 0, MOST_DEPTH):
        raise BadDepth()
    if depth == 0:
        return ()
    return tuple([(call, answer, cut_script(behind, depth - 1)) for call, answer, behind in script])


def checked_past(book, past):
    """Return the past as a tuple of tuples, or raise BadPast."""
    try:
        checked = check_history(book, past)
    except BadHistory:
        raise BadPast() from None
    if len(checked) > MOST_PAST or not is_right(book, checked):
        raise BadPast()
    return checked


def cut_count(scripts):
    """Return the number of cuts: the product of the numbers of turns of the scripts."""
    count = 1
    for script in scripts:
        count = count * len(turns_of(script))
    return count


class Wish:
    """A book, a past and a script for each of the hands 0, 1, .."""

    def __init__(self, book, past, scripts):
        entries = checked_past(book, past)
        trees = check_scripts(book, scripts)
        if cut_count(trees) > MOST_CUTS:
            raise TooMany(MOST_CUTS)
        self.book = Book(book.states, book.calls, book.ways)
        self.past = entries
        self.scripts = trees

    def __eq__(self, other):
        return (isinstance(other, Wish) and self.book == other.book
                and self.past == other.past and self.scripts == other.scripts)


def is_scripted(wish, hand):
    """Tell whether the thing is a scripted hand of the wish."""
    return is_from(hand, 0, len(wish.scripts) - 1)


def entries_of(wish, hand, turn):
    """Return the entries that a scripted hand makes along a turn of its script."""
    if not is_scripted(wish, hand) or not is_sequence(turn):
        raise NoTurn(hand)
    rows = rows_along(wish.scripts[hand], turn)
    if rows is None:
        raise NoTurn(hand)
    return tuple([(hand, row[0], row[1]) for row in rows])


def alone_fault(wish):
    """Return the first (hand, turn) that is wrong right behind the past, or None."""
    for hand, script in enumerate(wish.scripts):
        for turn in sorted(turns_of(script), key=lambda calls: (len(calls), calls)):
            if not is_right(wish.book, wish.past + entries_of(wish, hand, turn)):
                return (hand, turn)
    return None


def cut_down(wish, depth):
    """Return the wish with each script cut to this depth."""
    return Wish(wish.book, wish.past, [cut_script(script, depth) for script in wish.scripts])


def without_hand(wish, hand):
    """Return the wish without the script of this hand."""
    if not is_scripted(wish, hand):
        raise NoTurn(hand)
    kept = [script for at, script in enumerate(wish.scripts) if at != hand]
    return Wish(wish.book, wish.past, kept)
