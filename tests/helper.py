"""Sample books, wrong things, and plain searches that the tests hold the program against."""

import inspect
import random
import unittest
from fractions import Fraction
from itertools import combinations, permutations, product

from unmetcells.books import Book
from unmetcells.errors import BadCall, BadHand
from unmetcells.scripts import Wish, turns_of
from unmetcells.steps import do_step, run_program

# Things that are equal to numbers, look like numbers, or hold numbers, but are no whole numbers.
NOT_NUMBERS = (True, False, 0.0, 1.0, 2.5, Fraction(1), 1 + 0j, "0", "1", b"1", None, (), (1,), [0], {0: 0})

# Things that are no lists and no tuples; some of them hold just what a sequence would hold.
NOT_SEQUENCES = (None, "", "abc", b"", b"abc", {}, {0: 1}, set(), {0}, range(0), range(3), 0, 3, True, 1.5,
                 iter(()), object())

# Things that are no strings.
NOT_TEXTS = (None, b"", b"book 1 1", 0, 1, True, 1.5, [], (), ["book 1 1"], {}, object())

TOSS_WAYS = ((0, 0, 0, 1), (0, 0, 1, 2), (1, 0, 0, 1), (1, 0, 1, 2), (2, 0, 0, 1), (2, 0, 1, 2),
             (0, 1, 0, 0), (1, 1, 0, 1), (2, 1, 1, 2))

TOSS_SCRIPTS = (((0, 0, ()),), ((0, 1, ()),))


def toss_and_show():
    """The book of [1.9]."""
    return Book(3, 2, TOSS_WAYS)


def set_and_look():
    """The first book of [2.13]."""
    return Book(2, 2, ((0, 0, 0, 1), (0, 1, 0, 0), (1, 0, 0, 1), (1, 1, 1, 1)))


def free_look():
    """The second book of [2.13]."""
    return Book(1, 2, ((0, 0, 0, 0), (0, 1, 0, 0), (0, 1, 1, 0)))


def all_ways(states, calls):
    """All ways that so many states and calls let, ascending."""
    return tuple(product(range(states), range(calls), range(3), range(states)))


def full_book(states, calls):
    """The book with all ways."""
    return Book(states, calls, all_ways(states, calls))


def least_book(states, calls):
    """A book with one way for each state and call."""
    return Book(states, calls, [(s, c, 0, 0) for s in range(states) for c in range(calls)])


def drawn_book(dice, states, calls, share):
    """A book that has each way with this chance in ten, and one way at least where it needs one."""
    ways = [way for way in all_ways(states, calls) if dice.randrange(10) < share]
    for state in range(states):
        for call in range(calls):
            if not any(way[:2] == (state, call) for way in ways):
                ways.append((state, call, dice.randrange(3), dice.randrange(states)))
    return Book(states, calls, ways)


def drawn_books(seed, many, most_states, most_calls):
    """So many books; the same seed gives the same books."""
    dice = random.Random(seed)
    return [drawn_book(dice, dice.randrange(1, most_states + 1), dice.randrange(1, most_calls + 1),
                       dice.choice((0, 1, 2, 4))) for _ in range(many)]


def all_standings(book):
    """All standings of a book, () first."""
    found = []
    for bits in product((False, True), repeat=book.states):
        found.append(tuple(s for s in range(book.states) if bits[s]))
    return sorted(found)


def walk_ends(book, standing, trail):
    """The ends of the walks from the standing along the trail, walk after walk."""
    ends = set(standing)
    for couple in trail:
        ends = {way[3] for way in book.ways if way[0] in ends and way[1:3] == tuple(couple)}
    return tuple(sorted(ends))


def trails_of(calls, most):
    """All trails of at most so many couples, the lesser ones first."""
    couples = list(product(range(calls), range(3)))
    for length in range(most + 1):
        yield from product(couples, repeat=length)


def as_lists(thing):
    """The thing with lists in the place of tuples, through and through."""
    if isinstance(thing, (list, tuple)):
        return [as_lists(item) for item in thing]
    return thing


def as_tuples(thing):
    """The thing with tuples in the place of lists, through and through."""
    if isinstance(thing, (list, tuple)):
        return tuple(as_tuples(item) for item in thing)
    return thing


def mixed_forms(thing):
    """The thing as tuples, as lists, as a list of tuples and as a tuple of lists."""
    tuples = as_tuples(thing)
    return (tuples, as_lists(thing), list(tuples), tuple(as_lists(item) for item in tuples))


def full_script(calls, depth):
    """The script with all calls at each place down to this depth."""
    if depth == 0:
        return ()
    return tuple((call, 0, full_script(calls, depth - 1)) for call in range(calls))


def drawn_script(dice, book, depth):
    """A script of at most this depth."""
    if depth == 0:
        return ()
    return tuple((call, dice.choice(book.answers), drawn_script(dice, book, depth - 1))
                 for call in range(book.calls) if dice.randrange(3) > 0)


def drawn_wishes(seed, many):
    """So many wishes, over small books."""
    dice = random.Random(seed)
    wishes = []
    for book in drawn_books(seed, many, 3, 2):
        past, ends = (), (0,)
        for _ in range(dice.randrange(4)):
            entry = (dice.randrange(4), dice.randrange(book.calls), dice.choice(book.answers))
            if walk_ends(book, ends, (entry[1:],)):
                past, ends = past + (entry,), walk_ends(book, ends, (entry[1:],))
        scripts = [drawn_script(dice, book, 1 + dice.randrange(3))]
        scripts += [drawn_script(dice, book, 1) for _ in range(dice.randrange(3))]
        if len(turns_of(scripts[0])) * 9 <= 200:
            wishes.append(Wish(book, past, scripts))
    return wishes


def likely_script(dice, book, standing, depth):
    """A script of at most this depth that a hand hears alone from the standing."""
    rows = []
    for call in range(book.calls):
        if depth > 0 and dice.randrange(4) > 0:
            ends = {answer: walk_ends(book, standing, ((call, answer),)) for answer in book.answers}
            answer = dice.choice([answer for answer in ends if ends[answer]])
            rows.append((call, answer, likely_script(dice, book, ends[answer], depth - 1)))
    return tuple(rows)


def likely_wishes(seed, many, most_depth=2):
    """So many wishes in which each hand alone hears its script; some are had, some are barred in many ways."""
    dice = random.Random(seed)
    wishes = []
    while len(wishes) < many:
        states, calls = dice.choice((2, 3, 4)), dice.choice((1, 2, 2, 3))
        ways = []
        for state, call in product(range(states), range(calls)):
            ways += dice.sample(list(product((state,), (call,), range(3), range(states))), dice.choice((1, 1, 2, 3)))
        book, past, ends = Book(states, calls, ways), (), (0,)
        for _ in range(dice.choice((0, 0, 1, 3))):
            way = dice.choice([way for way in book if way[0] in ends])
            past, ends = past + ((dice.randrange(4),) + way[1:3],), walk_ends(book, ends, (way[1:3],))
        scripts = [likely_script(dice, book, ends, dice.randrange(1, most_depth + 1)) for _ in range(dice.choice((2, 2, 3)))]
        if 1 < cuts_in(scripts) <= 200:
            wishes.append(Wish(book, past, scripts))
    return wishes


def cuts_in(scripts):
    """How many cuts a wish with these scripts has."""
    count = 1
    for script in scripts:
        count *= len(turns_of(script))
    return count


def plain_entries(script, hand, turn):
    """The entries that a hand makes along a turn of its script, row by row."""
    entries = []
    for call in turn:
        row = [row for row in script if row[0] == call][0]
        entries.append((hand, call, row[1]))
        script = row[2]
    return tuple(entries)


def plain_weavings(parts):
    """All rows that keep the order within each part, ascending."""
    rows = set()
    for order in set(permutations([at for at, part in enumerate(parts) for _ in part])):
        rest = [list(part) for part in parts]
        rows.add(tuple(rest[at].pop(0) for at in order))
    return tuple(sorted(rows))


def weavings_of(wish, cut):
    """All weavings at a cut of a wish."""
    return plain_weavings([plain_entries(wish.scripts[hand], hand, turn) for hand, turn in enumerate(cut)])


def ends_behind(wish, row):
    """The ends of the walks along the past of a wish and a row of entries."""
    return walk_ends(wish.book, (0,), [entry[1:] for entry in wish.past + tuple(row)])


def plain_trimmed(standings):
    """The standings that hold all states of no other, unlike one."""
    sets = {frozenset(standing) for standing in standings}
    return tuple(sorted(tuple(sorted(one)) for one in sets if not any(other < one for other in sets)))


def plain_joint(wish, cut):
    """The joint of all weavings at a cut, walked one by one."""
    return plain_trimmed([ends_behind(wish, row) for row in weavings_of(wish, cut)])


def plain_onward(book, joint, call, answer):
    """The joint onward, standing by standing."""
    return plain_trimmed([walk_ends(book, standing, ((call, answer),)) for standing in joint])


def plain_reached(book, joint):
    """A dict from each joint that is reached to its joints onward: a list for each call, an item for each answer."""
    borne = sorted({way[2] for way in book.ways})
    table, waiting = {}, [plain_trimmed(joint)]
    while waiting:
        present = waiting.pop()
        if present not in table:
            table[present] = [[plain_onward(book, present, call, answer) for answer in borne]
                              for call in range(book.calls)]
            waiting += [led for row in table[present] for led in row]
    return table


def plain_safe(table):
    """The greatest lot among joints that are closed: joints are taken away until none has to be."""
    lot = {joint for joint in table if () not in joint}
    while True:
        kept = {joint for joint in lot if all(any(led in lot for led in row) for row in table[joint])}
        if kept == lot:
            return lot
        lot = kept


def plain_ranks(table):
    """The ranks among joints that are closed, as their definition tells; safe ones have a rank beyond all."""
    beyond = len(table) + 1
    ranks = {joint: 0 if () in joint else beyond for joint in table}
    while True:
        better = {joint: 0 if () in joint else
                  min(beyond, 1 + min(max(ranks[led] for led in row) for row in table[joint])) for joint in table}
        if better == ranks:
            return {joint: None if ranks[joint] == beyond else ranks[joint] for joint in table}
        ranks = better


def drawn_joints(seed, many, most_states=4, most_calls=3):
    """So many couples of a book and standings that make a joint, not trimmed, in any order."""
    dice = random.Random(seed)
    found = []
    for book in drawn_books(seed, many, most_states, most_calls):
        standings = all_standings(book)[1:]
        found.append((book, [dice.choice(standings) for _ in range(dice.randrange(1, 6))]))
    return found


def plain_books(seed, many, most_states=4, most_calls=3):
    """So many books with one way for each state and call."""
    dice = random.Random(seed)
    books = []
    for _ in range(many):
        states, calls = dice.randrange(1, most_states + 1), dice.randrange(1, most_calls + 1)
        borne = dice.choice(((0,), (0, 1), (0, 0, 0, 1), (0, 0, 0, 0, 1), (0, 1, 2)))
        books.append(Book(states, calls, [(state, call, dice.choice(borne), dice.randrange(states))
                                          for state in range(states) for call in range(calls)]))
    return books


def drawn_histories(seed, many, most=6, most_states=4, most_calls=2):
    """So many couples of a book and a history of at most so many entries by at most 4 hands; most are right."""
    dice = random.Random(seed)
    found = []
    while len(found) < many:
        states, calls = dice.randrange(1, most_states + 1), dice.randrange(1, most_calls + 1)
        ways = []
        for state, call in product(range(states), range(calls)):
            ways += dice.sample(list(product((state,), (call,), range(3), range(states))), dice.choice((1, 1, 2, 3)))
        book, ends, history = Book(states, calls, ways), (0,), ()
        hands = dice.sample(range(10), dice.randrange(1, 5))
        for _ in range(dice.randrange(most + 1)):
            _, call, answer, after = dice.choice([way for way in book if way[0] in ends])
            if dice.randrange(25) == 0:
                answer = dice.randrange(3)
            history, ends = history + ((dice.choice(hands), call, answer),), (after,)
        found.append((book, history))
    return found


def all_seams(history):
    """All seams that a history may have, those with fewer seams first, then ascending."""
    places = range(1, len(history))
    return [seams for many in range(len(history) or 1) for seams in combinations(places, many)]


def parts_between(history, seams):
    """The stretches of a history, cut at the seams one by one."""
    stretches = [()]
    for index, entry in enumerate(history):
        if index in seams:
            stretches.append(())
        stretches[-1] += (entry,)
    return tuple(stretches)


def rows_within(stretch):
    """All orders of the entries of a stretch in which the entries of each hand keep theirs, ascending."""
    rows = set()
    for order in permutations(range(len(stretch))):
        if all(one < other for at, one in enumerate(order) for other in order[at + 1:] if stretch[one][0] == stretch[other][0]):
            rows.add(tuple(stretch[index] for index in order))
    return sorted(rows)


def rows_across(stretches):
    """All rows of these stretches, one after the other, ascending."""
    return sorted(tuple(entry for part in parts for entry in part) for parts in product(*map(rows_within, stretches)))


def first_entries(stretch, counts):
    """The first entries of each hand of a stretch that the counts tell, in the order of the stretch."""
    left = dict(zip(sorted({entry[0] for entry in stretch}), counts))
    kept = ()
    for entry in stretch:
        if left[entry[0]] > 0:
            kept += (entry,)
            left[entry[0]] -= 1
    return kept


def plain_counts(stretch):
    """All counts of a stretch, by their sum, then ascending."""
    hands = [entry[0] for entry in stretch]
    rows = product(*[range(hands.count(hand) + 1) for hand in sorted(set(hands))])
    return sorted(rows, key=lambda row: (sum(row), row))


def changed_texts(text, signs):
    """All texts that come from one by a sign or a line that is changed, dropped, doubled or exchanged."""
    found = []
    for at in range(len(text) + 1):
        for sign in signs:
            found.append(text[:at] + sign + text[at:])
            found.append(text[:at] + sign + text[at + 1:])
        found.append(text[:at] + text[at + 1:])
        found.append(text[:at] + text[at:at + 1] * 2 + text[at + 1:])
        found.append(text[:at] + text[at:at + 2][::-1] + text[at + 2:])
    for between in ("\n", " "):
        parts = text.split(between)
        for at in range(len(parts)):
            found.append(between.join(parts[:at] + parts[at + 1:]))
            found.append(between.join(parts[:at] + parts[at:at + 1] * 2 + parts[at + 1:]))
            found.append(between.join(parts[:at] + parts[at:at + 2][::-1] + parts[at + 2:]))
    return sorted(set(found))


def heard_from(program, cells):
    """What the cells tell of the run."""
    return program.heard(dict(cells).__getitem__)


def is_plain_value(thing):
    """Tell whether the thing is a plain value, as [5.1] tells."""
    if thing.__class__ is tuple:
        return all(is_plain_value(item) for item in thing)
    return thing is None or thing.__class__ in (bool, int, str)


class Case(unittest.TestCase):
    """A test case with what several files ask for."""

    def refuses(self, error, told, ask, *given):
        """Ask, and want just this error with just these attributes."""
        with self.assertRaises(ValueError) as caught:
            ask(*given)
        self.assertIs(caught.exception.__class__, error)
        self.assertSame(vars(caught.exception), told)

    def assertSame(self, found, wanted):
        """Want an equal thing of the same kinds: True is not 1 here, and a list is no tuple."""
        self.assertEqual(found, wanted)
        self.assertEqual(repr(found), repr(wanted))

    def refusesBadAsks(self, program):
        """Want that bad asks are refused ahead of all reads and writes."""
        def untouched(*told):
            raise AssertionError(told)

        for hand in NOT_NUMBERS + (10, -1, 10 ** 100):
            self.refuses(BadHand, {}, program.step, untouched, untouched, hand, 0)
            self.refuses(BadHand, {}, program.step, untouched, untouched, hand, None)
        for call in NOT_NUMBERS + (program.calls, -1, 10 ** 100):
            for hand in (0, 1, 3, 9):
                self.refuses(BadCall, {}, program.step, untouched, untouched, hand, call)

    def hasFirstCells(self, program, twin):
        """Want first cells of plain values that are new each time, and equal to those of a twin."""
        cells = program.first_cells()
        self.assertIs(cells.__class__, dict)
        for name, value in cells.items():
            self.assertIs(name.__class__, str)
            self.assertTrue(is_plain_value(value))
        self.assertIsNot(program.first_cells(), cells)
        cells.clear()
        self.assertNotEqual(program.first_cells(), {})
        self.assertEqual(program.first_cells(), twin.first_cells())

    def goesOn(self, program, twin, asks, half):
        """Want that a twin goes on with the cells that a program has left behind half of the asks."""
        run, first = run_program(program, asks), run_program(program, asks[:half])
        rest = run_program(twin, asks[half:], first.cells)
        self.assertEqual(rest.cells, run.cells)
        self.assertEqual(first.entries + rest.entries, run.entries)

    def servesInTurn(self, program, twins, rows):
        """Want that a program serves a dict of cells for each row of asks in turn, as a twin of its own would each."""
        wanted = [run_program(twin, row) for twin, row in zip(twins, rows)]
        cells, answers = [program.first_cells() for _ in rows], [[] for _ in rows]
        for at in range(len(rows[0])):
            for k, row in enumerate(rows):
                answer, _, cells[k] = do_step(program, cells[k], *row[at])
                answers[k].append(answer)
        self.assertEqual([tuple(found) for found in answers], [run.answers for run in wanted])
        self.assertEqual(cells, [run.cells for run in wanted])

    def dependsOnReads(self, program, cells, hand, call):
        """Want that a step does the same if only the cells that it reads are there."""
        answer, marks, behind = do_step(program, cells, hand, call)
        again, other, changed = do_step(program, {name: cells[name] for name in marks[0]}, hand, call)
        self.assertSame((again, other), (answer, marks))
        self.assertEqual(changed, {name: behind[name] for name in set(marks[0] + marks[1])})

    def hearsOwnCells(self, program, asks):
        """Want that `heard` behind these asks reads cells of the program alone."""
        cells, asked = run_program(program, asks).cells, []

        def read(name):
            asked.append(name)
            return cells[name]

        self.assertSame(program.heard(read), heard_from(program, cells))
        self.assertTrue(set(asked) <= set(program.first_cells()))

    def isResult(self, kind, *names):
        """Want a class that keeps the very things that it is given, whatever they are, and compares them alone."""
        things = [object() for _ in names]
        for found in (kind(*things), kind(**dict(zip(names, things)))):
            self.assertEqual(list(vars(found)), list(names))
            for name, thing in zip(names, things):
                self.assertIs(getattr(found, name), thing)
        one, twin = kind(*[[name] for name in names]), kind(*[[name] for name in names])
        self.assertIs(one == twin, True)
        self.assertIs(one != twin, False)
        others = [kind(*[[name] if name != changed else [] for name in names]) for changed in names]
        for other in others + [tuple([name] for name in names), [list(names)], None, 1, "", object()]:
            self.assertIs(one == other, False)
            self.assertIs(other == one, False)
            self.assertIs(one != other, True)

    def unlikeClasses(self, *kinds):
        """Want that objects of two classes are never equal; the classes take equally many things."""
        many = len(inspect.signature(kinds[0]).parameters)
        for one, other in permutations(kinds, 2):
            self.assertIs(one(*range(many)) == other(*range(many)), False)
            self.assertIs(one(*range(many)) != other(*range(many)), True)

    def assertTuples(self, thing):
        """Want whole numbers, None, strings, and tuples of these only."""
        if isinstance(thing, tuple):
            self.assertIs(thing.__class__, tuple)
            for item in thing:
                self.assertTuples(item)
        else:
            self.assertIn(thing.__class__, (int, str, None.__class__))
