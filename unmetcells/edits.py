"""Edits of wishes."""

from unmetcells.books import is_answer, is_call
from unmetcells.errors import BadBook, BadEdit, BadPast, BadScripts, TooMany
from unmetcells.kinds import is_from, is_row, is_sequence, word_of
from unmetcells.scripts import MOST_DEPTH, MOST_SCRIPTS, Wish, is_scripted, row_with, rows_along, without_hand

MOST_EDITS = 100


def put_way(wish, index, edit):
    """Return the wish with one way more in its book."""
    try:
        return Wish(wish.book.with_way(edit[1]), wish.past, wish.scripts)
    except BadBook:
        raise BadEdit(index, "book") from None


def take_way(wish, index, edit):
    """Return the wish with one way less in its book."""
    try:
        return Wish(wish.book.without_way(edit[1]), wish.past, wish.scripts)
    except BadBook:
        raise BadEdit(index, "book") from None
    except BadPast:
        raise BadEdit(index, "wish") from None


def put_entry(wish, index, edit):
    """Return the wish with one entry more at the end of its past."""
    try:
        return Wish(wish.book, wish.past + (edit[1],), wish.scripts)
    except BadPast:
        raise BadEdit(index, "wish") from None


def take_entry(wish, index, edit):
    """Return the wish without the last entry of its past."""
    if wish.past == ():
        raise BadEdit(index, "wish")
    return Wish(wish.book, wish.past[:-1], wish.scripts)


def with_row(script, row):
    """Return the script with this row, in the place of the one with its call if there is one."""
    return tuple(sorted([other for other in script if other[0] != row[0]] + [row]))


def script_with(script, turn, call, answer):
    """Return the script with the answer to this call behind the turn; what stands behind the call stays."""
    if turn == ():
        old = row_with(script, call)
        return with_row(script, (call, answer, () if old is None else old[2]))
    row = row_with(script, turn[0])
    return with_row(script, (row[0], row[1], script_with(row[2], turn[1:], call, answer)))


def script_without(script, turn):
    """Return the script without the last row of a turn that is not bare, and without what stands behind it."""
    if len(turn) == 1:
        return tuple([row for row in script if row[0] != turn[0]])
    row = row_with(script, turn[0])
    return with_row(script, (row[0], row[1], script_without(row[2], turn[1:])))


def is_turn(wish, hand, turn):
    """Tell whether the hand is scripted and the other thing is a turn of its script."""
    return is_scripted(wish, hand) and is_sequence(turn) and rows_along(wish.scripts[hand], turn) is not None


def is_next_hand(wish, hand):
    """Tell whether the hand is the one behind the last scripted hand, and one more may be scripted."""
    many = len(wish.scripts)
    return many < MOST_SCRIPTS and is_from(hand, many, many)


def put_row(wish, index, edit):
    """Return the wish with a row put to a script, or with a new script of this row alone."""
    _, hand, turn, call, answer = edit
    scripts = list(wish.scripts)
    if is_next_hand(wish, hand) and is_row(turn, 0):
        scripts.append(())
    elif not is_turn(wish, hand, turn) or len(turn) == MOST_DEPTH:
        raise BadEdit(index, "wish")
    if not is_call(wish.book.calls, call) or not is_answer(answer):
        raise BadEdit(index, "wish")
    scripts[hand] = script_with(scripts[hand], tuple(turn), call, answer)
    try:
        return Wish(wish.book, wish.past, scripts)
    except TooMany:
        raise BadEdit(index, "wish") from None


def take_row(wish, index, edit):
    """Return the wish without the last row of a turn, or without a whole script."""
    _, hand, turn = edit
    if not is_turn(wish, hand, turn):
        raise BadEdit(index, "wish")
    if len(turn) > 0:
        scripts = list(wish.scripts)
        scripts[hand] = script_without(scripts[hand], tuple(turn))
        return Wish(wish.book, wish.past, scripts)
    try:
        return without_hand(wish, hand)
    except BadScripts:
        raise BadEdit(index, "wish") from None


# Each word of an edit with the number of its items, and with what does such an edit.
LENGTHS = {"way": 2, "unway": 2, "past": 2, "unpast": 1, "script": 5, "unscript": 3}
ACTIONS = {"way": put_way, "unway": take_way, "past": put_entry, "unpast": take_entry, "script": put_row,
           "unscript": take_row}


def after_edit(wish, index, edit):
    """Return the wish after the edit with this index, or raise BadEdit."""
    word = word_of(edit)
    if word not in LENGTHS or len(edit) != LENGTHS[word]:
        raise BadEdit(index, "shape")
    action = ACTIONS[word]
    return action(wish, index, edit)


def edited(wish, edits):
    """Return the wish after all edits, each done on what the ones before it have left."""
    if not is_sequence(edits):
        raise BadEdit(0, "shape")
    if len(edits) > MOST_EDITS:
        raise BadEdit(MOST_EDITS, "shape")
    present = Wish(wish.book, wish.past, wish.scripts)
    for index, edit in enumerate(edits):
        present = after_edit(present, index, edit)
    return present
