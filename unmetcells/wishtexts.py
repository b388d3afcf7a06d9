"""The texts of wishes."""

from unmetcells.books import is_answer, is_call
from unmetcells.booktexts import book_text, figure_of, history_text, read_book, read_history
from unmetcells.errors import BadPast, BadText
from unmetcells.scripts import MOST_DEPTH, MOST_SCRIPTS, Wish, checked_past, rows_along, turns_of


def wish_text(wish):
    """Return the text of a wish."""
    lines = [book_text(wish.book), past_line(wish.past)]
    for hand, script in enumerate(wish.scripts):
        lines.append(f"hand {hand}")
        for turn in turns_of(script):
            if turn != ():
                lines.append(row_line(turn, rows_along(script, turn)[-1][1]))
    return "\n".join(lines)


def past_line(past):
    """Return the line of a past."""
    if past == ():
        return "past"
    return f"past {history_text(past)}"


def row_line(turn, answer):
    """Return the line of the row that the turn ends with."""
    words = [str(call) for call in turn[:-1]]
    words.append(f"{turn[-1]}>{answer}")
    return " ".join(words)


def is_past_line(line):
    """Tell whether the line is that of some past, right or wrong."""
    return line == "past" or line.startswith("past ")


def read_wish(text):
    """Return the wish with this text."""
    if not isinstance(text, str):
        raise BadText(0)
    lines = text.split("\n")
    place = 0
    while place < len(lines) and not is_past_line(lines[place]):
        place += 1
    book = read_book("\n".join(lines[:place]))
    if place == len(lines):
        raise BadText(place)
    past = past_in(book, lines[place], place)
    tables = tables_in(book, lines, place + 1)
    if tables == []:
        raise BadText(len(lines))
    return Wish(book, past, [script_in(answers, ()) for answers in tables])


def past_in(book, line, place):
    """Return the past that its line tells, or raise BadText with the number of the line."""
    if line == "past":
        return ()
    try:
        past = checked_past(book, read_history(book, line[len("past "):]))
    except (BadText, BadPast):
        raise BadText(place) from None
    # A bare past has no blank behind its word.
    if past == ():
        raise BadText(place)
    return past


def tables_in(book, lines, begin):
    """Return, for each hand, a dict from each turn that the lines tell to the answer of its last row."""
    tables = []
    least = ()
    for place in range(begin, len(lines)):
        line = lines[place]
        if line == f"hand {len(tables)}" and len(tables) < MOST_SCRIPTS:
            tables.append({})
            least = ()
            continue
        turn, answer = row_in(book, line, place)
        if tables == [] or turn <= least or not is_placed(turn, tables[-1]):
            raise BadText(place)
        tables[-1][turn] = answer
        least = turn
    return tables


def row_in(book, line, place):
    """Return the couple (turn, answer) that the line of a row tells, or raise BadText."""
    words = line.split(" ")
    last = words[-1]
    if len(words) > MOST_DEPTH or len(last) != 3 or last[1] != ">":
        raise BadText(place)
    turn = tuple([figure_of(word) for word in words[:-1] + [last[0]]])
    answer = figure_of(last[2])
    if not is_answer(answer) or not all([is_call(book.calls, call) for call in turn]):
        raise BadText(place)
    return (turn, answer)


def is_placed(turn, answers):
    """Tell whether the turn without its last call is bare or stands in the dict."""
    return len(turn) == 1 or turn[:-1] in answers


def script_in(answers, ahead):
    """Return the script behind a turn; `answers` has the answer of the last row of each turn."""
    rows = []
    for turn, answer in answers.items():
        if turn[:-1] == ahead:
            rows.append((turn[-1], answer, script_in(answers, turn)))
    return tuple(rows)
