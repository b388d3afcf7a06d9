"""The texts of books and of histories."""

from unmetcells.books import MOST_CALLS, MOST_STATES, Book, is_way
from unmetcells.errors import BadBook, BadText
from unmetcells.histories import MOST_ENTRIES, is_entry

FIGURES = "0123456789"


def figure_of(word):
    """Return the number that a word of one figure tells, and -1 for any other word."""
    if len(word) != 1:
        return -1
    return FIGURES.find(word)


def book_text(book):
    """Return the text of a book."""
    lines = [f"book {book.states} {book.calls}"]
    for state, call, answer, after in book.ways:
        lines.append(f"{state} {call} {answer} {after}")
    return "\n".join(lines)


def sizes_in(line):
    """Return the couple (states, calls) that the first line of a text tells."""
    words = line.split(" ")
    if len(words) != 3 or words[0] != "book":
        raise BadText(0)
    states = figure_of(words[1])
    calls = figure_of(words[2])
    if not 1 <= states <= MOST_STATES or not 1 <= calls <= MOST_CALLS:
        raise BadText(0)
    return (states, calls)


def ways_in(states, calls, lines):
    """Return the ways that the lines behind the first one tell."""
    ways = []
    for place in range(1, len(lines)):
        way = tuple([figure_of(word) for word in lines[place].split(" ")])
        if not is_way(states, calls, way):
            raise BadText(place)
        if ways and way <= ways[-1]:
            raise BadText(place)
        ways.append(way)
    return ways


def read_book(text):
    """Return the book with this text."""
    if not isinstance(text, str):
        raise BadText(0)
    lines = text.split("\n")
    states, calls = sizes_in(lines[0])
    ways = ways_in(states, calls, lines)
    try:
        return Book(states, calls, ways)
    except BadBook:
        # Each line is a way above the one before, so all that can be wrong is that some are lacking.
        raise BadText(len(lines)) from None


def history_text(history):
    """Return the text of a history."""
    return " ".join([f"{hand}:{call}>{answer}" for hand, call, answer in history])


def entry_in(word):
    """Return the entry that a word tells, and None if it has not the form of one."""
    if len(word) != 5 or word[1] != ":" or word[3] != ">":
        return None
    return (figure_of(word[0]), figure_of(word[2]), figure_of(word[4]))


def read_history(book, text):
    """Return the history of the book with this text."""
    if not isinstance(text, str):
        raise BadText(0)
    if text == "":
        return ()
    words = text.split(" ")
    if len(words) > MOST_ENTRIES:
        raise BadText(MOST_ENTRIES)
    entries = []
    for place, word in enumerate(words):
        entry = entry_in(word)
        if not is_entry(book, entry):
            raise BadText(place)
        entries.append(entry)
    return tuple(entries)
