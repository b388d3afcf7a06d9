"""[6.5] to [6.7], and of [6.10] what it says of meet_fault."""

import random
from itertools import product

from tests.helper import NOT_NUMBERS, NOT_SEQUENCES, Case, as_lists, full_script, mixed_forms
from tests.test_foreign import LOOK, SAY, SET, drawn_deed, plain_step, rows_of
from tests.test_programs import had_wishes, look_wish
from tests.test_steps import Tally
from unmetcells.books import Book
from unmetcells.errors import BadAsks, BadCall, BadDepth, BadHand, BadLots
from unmetcells.foes import is_had
from unmetcells.foreign import Foreign
from unmetcells.keeping import kept_fault
from unmetcells.meetings import Exchange, exchange, meet_fault, scripts_of
from unmetcells.programs import UnmetProgram
from unmetcells.rightness import program_fault
from unmetcells.scripts import Wish
from unmetcells.steps import do_step, meeting_of, meetings_in, run_program

SMALL_SIZES = ((1,), (2,), (3,), (2, 2), (2, 3), (3, 2), (1, 2), (2, 1, 2), (1, 2, 3))

COUNTER = Foreign((3,), rows_of(("read", 0, (("write", 0, 1, SAY), ("write", 0, 2, ("say", 1)), ("say", 2)))))

# Hand 0 counts in a cell of its own; only when it has counted to 2, its next call touches the cell of the others.
LATE = Foreign((2, 3), ((("read", 1, (("write", 1, 1, SAY), ("write", 1, 2, SAY), ("write", 0, 1, SAY))), SAY),
                        (LOOK, SAY), (SAY, LOOK), (SAY, SAY)))


def example():
    """The foreign program of [6.10]."""
    return Foreign((2,), rows_of(SET, LOOK))


def small_foreign(dice, calls, depth=2):
    """A foreign program whose cells have at most six values together, with deeds of any kind."""
    sizes = dice.choice(SMALL_SIZES)
    return Foreign(sizes, [[drawn_deed(dice, sizes, dice.randrange(depth + 1)) for _ in range(calls)] for _ in range(4)])


def busy_deed(dice, sizes, own):
    """A deed that looks at a cell of the hand's own and counts it up, and seldom touches another one."""
    below = []
    for value in range(sizes[own]):
        cell = dice.choice((own, own, own, dice.randrange(len(sizes))))
        say = ("say", dice.randrange(3))
        write = ("write", cell, (value + 1) % sizes[own] if cell == own else dice.randrange(sizes[cell]), say)
        read = ("read", cell, tuple(("say", dice.randrange(3)) for _ in range(sizes[cell])))
        below.append(dice.choice((write, write, read, say)))
    return ("read", own, tuple(below))


def busy_foreign(dice, calls):
    """A foreign program of at most six values in which hands 0 and 1 mostly keep to a cell of their own."""
    sizes = dice.choice(((2, 3), (3, 2), (2, 2), (2, 1, 3), (3, 2, 1)))
    rows = [[busy_deed(dice, sizes, min(hand, len(sizes) - 1)) for _ in range(calls)] for hand in range(4)]
    return Foreign(sizes, rows)


def drawn_program(dice, calls):
    """A foreign program of at most six values."""
    return dice.choice((small_foreign(dice, calls), busy_foreign(dice, calls), busy_foreign(dice, calls)))


def book_of(foreign):
    """A book for which a foreign program is right: its states are the values of the cells."""
    values = list(product(*[range(size) for size in foreign.sizes]))
    ways = set()
    for state, held in enumerate(values):
        for hand, call in product(range(4), range(foreign.calls)):
            answer, _, behind = plain_step(foreign, held, hand, call)
            ways.add((state, call, answer, values.index(tuple(behind))))
    return Book(len(values), foreign.calls, sorted(ways))


def drawn_lots(dice, calls, many=None):
    """Lots for one to three hands, in any order and with duplicates."""
    return [[dice.randrange(calls) for _ in range(dice.choice((0, 1, 1, 2, 3)))]
            for _ in range(many or dice.choice((1, 2, 2, 3)))]


def asks_of(lots):
    """The asks of lots, ascending."""
    return [(hand, call) for hand, lot in enumerate(lots) for call in sorted(set(lot))]


def plain_meet(program, past, lots, most):
    """The least row of at most so many asks whose last two steps are done by unlike hands and meet."""
    cells = run_program(program, past).cells
    for length in range(2, most + 1):
        for row in product(asks_of(lots), repeat=length):
            run = run_program(program, row, cells)
            if row[-2][0] != row[-1][0] and meeting_of(run.marks[-2], run.marks[-1]) is not None:
                return row
    return None


class TestExchange(Case):

    def test_set_and_look(self):
        for cells in ({"c0": 0}, {"c0": 0, "other": (1, "x")}):
            behind = dict(cells, c0=1)
            for one, other in (((0, 0), (1, 1)), ([0, 0], [1, 1])):
                self.assertEqual(exchange(example(), cells, one, other), Exchange((0, 1, behind), (0, 0, behind), "c0"))
            self.assertEqual(exchange(example(), cells, (1, 1), (0, 0)), Exchange((0, 0, behind), (1, 0, behind), "c0"))
            self.assertEqual(exchange(example(), cells, (1, 1), (2, 1)), Exchange((0, 0, cells), (0, 0, cells), None))

    def test_the_same_ask_twice(self):
        found = exchange(COUNTER, {"c0": 0}, (3, 0), (3, 0))
        self.assertEqual(found, Exchange((0, 1, {"c0": 2}), (1, 0, {"c0": 2}), "c0"))
        found = exchange(COUNTER, {"c0": 1}, (3, 0), (3, 0))
        self.assertEqual(found, Exchange((1, 2, {"c0": 2}), (2, 1, {"c0": 2}), "c0"))
        found = exchange(COUNTER, {"c0": 2}, (3, 0), (3, 0))
        self.assertEqual(found, Exchange((2, 2, {"c0": 2}), (2, 2, {"c0": 2}), None))

    def test_asks_of_one_hand_meet_too(self):
        self.assertEqual(exchange(example(), {"c0": 0}, (4, 0), (4, 1)), Exchange((0, 1, {"c0": 1}), (0, 0, {"c0": 1}), "c0"))
        self.assertEqual(exchange(example(), {"c0": 1}, (4, 0), (4, 1)), Exchange((0, 1, {"c0": 1}), (0, 1, {"c0": 1}), "c0"))

    def test_the_marks_are_those_of_the_first_order(self):
        program = Foreign((2, 2), ((("write", 0, 1, SAY),), (("read", 0, (SAY, ("write", 1, 1, SAY))),), (LOOK,), (LOOK,)))
        self.assertSame(exchange(program, {"c0": 0, "c1": 0}, (0, 0), (1, 0)).meets, "c0")
        late = Foreign((2, 2), ((("write", 1, 1, ("write", 0, 1, SAY)),), (("read", 1, (SAY, ("read", 0, (SAY, SAY)))),),
                                (LOOK,), (LOOK,)))
        self.assertSame(exchange(late, {"c0": 0, "c1": 0}, (0, 0), (1, 0)).meets, "c0")
        self.assertSame(exchange(late, {"c0": 0, "c1": 0}, (1, 0), (0, 0)).meets, "c1")

    def test_step_by_step(self):
        dice = random.Random(201)
        free = 0
        for _ in range(400):
            program = drawn_program(dice, 2)
            values = [dice.randrange(size) for size in program.sizes]
            cells = {f"c{cell}": value for cell, value in enumerate(values)}
            one, other = [(dice.choice((0, 1, 2, 3, 9)), dice.randrange(2)) for _ in range(2)]
            first, marks, held = plain_step(program, values, *one)
            second, later, held = plain_step(program, held, *other)
            ahead = (first, second, {f"c{cell}": value for cell, value in enumerate(held)})
            second, turned_later, held = plain_step(program, values, *other)
            first, turned_marks, held = plain_step(program, held, *one)
            behind = (first, second, {f"c{cell}": value for cell, value in enumerate(held)})
            found = exchange(program, cells, one, other)
            self.assertEqual(found, Exchange(ahead, behind, meeting_of(marks, later)))
            self.assertTuples((found.ahead[:2], found.behind[:2], found.meets))
            self.assertIs(found.ahead.__class__, tuple)
            self.assertIs(found.behind.__class__, tuple)
            if found.meets is None:
                self.assertEqual(found.ahead, found.behind)
                self.assertEqual((marks, later), (turned_marks, turned_later))
                free += 1
            self.assertSame(cells, {f"c{cell}": value for cell, value in enumerate(values)})
        self.assertGreater(free, 50)
        self.assertGreater(400 - free, 50)

    def test_programs_of_wishes(self):
        program = UnmetProgram(look_wish())
        cells = run_program(program, ((0, 0),)).cells
        found = exchange(program, cells, (0, 0), (1, 1))
        self.assertEqual((found.ahead[:2], found.meets), ((0, 1), None))
        self.assertEqual(found.ahead, found.behind)
        self.assertSame(exchange(program, cells, (0, 0), (5, 1)).meets, "mode")

    def test_cells_stay_and_what_is_returned_is_new(self):
        cells = {"c0": 0, "x": 5}
        found = exchange(example(), cells, (0, 0), (1, 1))
        found.ahead[2]["c0"] = 7
        self.assertSame(cells, {"c0": 0, "x": 5})
        self.assertSame(found.behind[2], {"c0": 1, "x": 5})
        self.assertEqual(exchange(example(), cells, (1, 1), (2, 1)).ahead[2], cells)
        self.assertIsNot(exchange(example(), cells, (1, 1), (2, 1)).ahead[2], cells)

    def test_errors(self):
        cells = {"c0": 0}
        for hand in NOT_NUMBERS + (-1, 10, 10 ** 100):
            self.refuses(BadHand, {}, exchange, example(), cells, (hand, 7), (10, 7))
            self.refuses(BadHand, {}, exchange, example(), cells, (0, 0), (hand, 7))
        for call in NOT_NUMBERS + (-1, 2, 10 ** 100):
            self.refuses(BadCall, {}, exchange, example(), cells, (9, call), (10, 0))
            self.refuses(BadCall, {}, exchange, example(), cells, (0, 1), (9, call))

    def test_errors_come_ahead_of_all_steps(self):
        program = Tally()
        self.refuses(BadCall, {}, exchange, program, program.first_cells(), (0, 0), (0, 3))
        self.assertEqual(program.done, 0)

    def test_result(self):
        self.isResult(Exchange, "ahead", "behind", "meets")


class TestMeetFault(Case):

    def test_example(self):
        for lots in mixed_forms(((0,), (1,))):
            self.assertSame(meet_fault(example(), (), lots), ((0, 0), (1, 1)))
        self.assertIs(meet_fault(example(), [], ((1,), (1,))), None)
        self.assertSame(meet_fault(example(), (), ((1,), (0,))), ((0, 1), (1, 0)))
        self.assertSame(meet_fault(example(), (), ((), (0,), (1, 0))), ((1, 0), (2, 0)))

    def test_lots_with_duplicates_in_any_order_and_empty_ones(self):
        for lots in ([[1, 0, 1], [1, 1]], [(0, 1), (1,)], ([0, 0, 1, 1, 0], [1] * 500)):
            self.assertSame(meet_fault(example(), (), lots), ((0, 0), (1, 1)))
        for lots in (((),), ((), ()), ([], [], []), ((0, 1),), ((), (0, 1)), ((), (), (1, 0))):
            self.assertIs(meet_fault(example(), ((0, 0), (1, 1)), lots), None)

    def test_a_meeting_once_another_cell_is_raised(self):
        self.assertSame(meet_fault(LATE, (), ((0,), (0,))), ((0, 0), (0, 0), (0, 0), (1, 0)))
        self.assertSame(meet_fault(LATE, ((0, 0),), ((0,), (0,))), ((0, 0), (0, 0), (1, 0)))
        self.assertSame(meet_fault(LATE, [[0, 0], [1, 0], [0, 0]], ((0,), (0,))), ((0, 0), (1, 0)))
        self.assertSame(meet_fault(LATE, (), ((0, 1), (), (0, 1))), ((0, 0), (0, 0), (0, 0), (2, 1)))
        self.assertIs(meet_fault(LATE, ((0, 0), (0, 0), (0, 0)), ((1,), (0, 1), (0, 1))), None)

    def test_the_past_runs_from_the_first_cells(self):
        counter = Foreign((3, 2), ((("read", 0, (("write", 0, 1, SAY), ("write", 0, 2, SAY), SAY)),),
                                   (("read", 0, (SAY, SAY, ("write", 1, 1, SAY))),), (("read", 1, (SAY, SAY)),), (SAY,)))
        self.assertIs(meet_fault(counter, ((0, 0),), ((), (0,), (0,))), None)
        self.assertSame(meet_fault(counter, ((0, 0), (0, 0)), ((), (0,), (0,))), ((1, 0), (2, 0)))

    def test_against_all_rows(self):
        dice = random.Random(202)
        lengths = {}
        for _ in range(900):
            calls = dice.choice((1, 2, 2, 3))
            program, lots = drawn_program(dice, calls), drawn_lots(dice, calls)
            past = [(dice.randrange(10), dice.randrange(calls)) for _ in range(dice.choice((0, 0, 1, 3)))]
            most = 5 if len(asks_of(lots)) < 4 else 4
            wanted = plain_meet(program, past, lots, most)
            found = meet_fault(program, past, lots)
            if wanted is None and found is not None:
                self.assertGreater(len(found), most)
                run = run_program(program, found, run_program(program, past).cells)
                self.assertTrue(any(row[:2] == (len(found) - 2, len(found) - 1) for row in meetings_in(run)))
            else:
                self.assertSame(found, wanted)
            length = None if found is None else len(found)
            lengths[length] = lengths.get(length, 0) + 1
        self.assertTrue({None, 2, 3} <= set(lengths), lengths)
        self.assertGreater(lengths[None], 50)
        self.assertGreater(lengths[3], 5)

    def test_any_two_steps_of_unlike_hands(self):
        """None exactly if no two steps meet, however far apart; and no row that is shorter has such steps."""
        dice = random.Random(203)
        found = {True: 0, False: 0}
        for _ in range(250):
            program, lots = drawn_program(dice, 2), drawn_lots(dice, 2, 2)
            fault = meet_fault(program, (), lots)
            for length in range(2, 5 if fault is None else len(fault)):
                for row in product(asks_of(lots), repeat=length):
                    self.assertSame(meetings_in(run_program(program, row)), ())
            if fault is None:
                long = [dice.choice(asks_of(lots)) for _ in range(40 if asks_of(lots) else 0)]
                self.assertSame(meetings_in(run_program(program, long)), ())
            found[fault is None] += 1
        self.assertGreater(min(found.values()), 20)

    def test_long_least_rows(self):
        """Two cells of hand 0 are counted through before it touches the cell of hand 1."""
        last = ("write", 0, 1, SAY)
        deed = ("read", 1, tuple(("read", 2, tuple(
            last if (high, low) == (2, 2) else
            ("write", 2, low + 1, SAY) if low < 2 else ("write", 2, 0, ("write", 1, high + 1, SAY))
            for low in range(3))) for high in range(3)))
        program = Foreign((2, 3, 3), ((deed,), (LOOK,), (SAY,), (SAY,)))
        self.assertSame(meet_fault(program, (), ((0,), (0,))), ((0, 0),) * 9 + ((1, 0),))

    def test_errors_of_the_past(self):
        for lots in (((0,),), None):
            for thing in NOT_SEQUENCES:
                self.refuses(BadAsks, {"index": 0}, meet_fault, example(), thing, lots)
            self.refuses(BadAsks, {"index": 0}, meet_fault, example(), [(0, 0)] * 201, lots)
            for ask in ((10, 0), (0, 2), (True, 0), (0, False), (0,), (0, 0, 0), None, (0, 1.0)):
                self.refuses(BadAsks, {"index": 1}, meet_fault, example(), [(9, 1), ask, None], lots)
        self.assertIs(meet_fault(example(), [(7, 0)] * 200, ((0,),)), None)
        self.assertSame(meet_fault(example(), [(7, 0)] * 200, ((0,), (1,))), ((0, 0), (1, 1)))

    def test_errors_of_the_lots(self):
        for thing in NOT_SEQUENCES + ((), [], ((),) * 4, [[0]] * 4, [None] * 4):
            self.refuses(BadLots, {"hand": -1}, meet_fault, example(), (), thing)
        for thing in NOT_SEQUENCES + ((2,), [0, -1], (1, (0,)), [10 ** 100]):
            self.refuses(BadLots, {"hand": 0}, meet_fault, example(), (), (thing, None))
            self.refuses(BadLots, {"hand": 2}, meet_fault, example(), (), [(0,), (1,), thing])
        for call in NOT_NUMBERS:
            self.refuses(BadLots, {"hand": 1}, meet_fault, example(), (), [(0,), (1, call), ()])

    def test_what_is_passed_stays(self):
        past, lots = [[0, 0], [1, 1]], [[1, 0, 1], [0]]
        found = meet_fault(example(), past, lots)
        self.assertSame((past, lots), ([[0, 0], [1, 1]], [[1, 0, 1], [0]]))
        lots[1].clear()
        self.assertSame(found, ((0, 0), (1, 0)))


class TestScriptsOf(Case):

    def test_example(self):
        for lots in mixed_forms(((0,), (1, 0))):
            self.assertSame(scripts_of(example(), (), lots, 0), ((), ()))
            self.assertSame(scripts_of(example(), [], lots, 1), (((0, 0, ()),), ((0, 0, ()), (1, 0, ()))))
            self.assertSame(scripts_of(example(), [[3, 0]], lots, 1), (((0, 0, ()),), ((0, 0, ()), (1, 1, ()))))
        self.assertSame(scripts_of(example(), (), ((1, 0, 1),), 2),
                        (((0, 0, ((0, 0, ()), (1, 1, ()))), (1, 0, ((0, 0, ()), (1, 0, ())))),))

    def test_each_hand_is_alone(self):
        self.assertSame(scripts_of(COUNTER, (), ((0,), (0,), (0, 0)), 3), (((0, 0, ((0, 1, ((0, 2, ()),)),)),),) * 3)
        self.assertSame(scripts_of(COUNTER, ((9, 0),), ((0,), (), (0,)), 2),
                        (((0, 1, ((0, 2, ()),)),), (), ((0, 1, ((0, 2, ()),)),)))

    def test_against_runs(self):
        dice = random.Random(204)
        for _ in range(60):
            calls, depth = dice.randrange(1, 4), dice.randrange(4)
            program, lots = small_foreign(dice, calls, 4), drawn_lots(dice, calls)
            past = [(dice.randrange(10), dice.randrange(calls)) for _ in range(dice.randrange(4))]
            scripts = scripts_of(program, past, lots, depth)
            self.assertTuples(scripts)
            self.assertEqual(len(scripts), len(lots))
            for hand, script in enumerate(scripts):
                self.assertEqual(self.heard(program, past, hand, script, ()), depth if lots[hand] else 0)
                self.assertEqual(self.calls_at(script), {tuple(sorted(set(lots[hand])))} if lots[hand] and depth else set())

    def heard(self, program, past, hand, script, turn):
        """Ask for each row of a script behind its turn, and return the depth of the script."""
        depths = [0]
        for call, answer, behind in script:
            asks = list(past) + [(hand, made) for made in turn + (call,)]
            self.assertSame(run_program(program, asks).answers[-1], answer)
            depths.append(1 + self.heard(program, past, hand, behind, turn + (call,)))
        return max(depths)

    def calls_at(self, script):
        """The rows of calls at all places of a script that are not at its ends."""
        found = {tuple(row[0] for row in script)} if script else set()
        for row in script:
            found |= self.calls_at(row[2])
        return found

    def test_programs_of_wishes(self):
        for wish in had_wishes(205, 40):
            program = UnmetProgram(wish)
            past = [entry[:2] for entry in wish.past]
            lots = [[row[0] for row in script] for script in wish.scripts]
            found = scripts_of(program, past, lots, 1)
            self.assertSame(found, tuple(tuple((call, answer, ()) for call, answer, _ in script) for script in wish.scripts))

    def test_errors(self):
        for depth in (2, 9, None):
            for thing in NOT_SEQUENCES + ([(0, 0)] * 201,):
                self.refuses(BadAsks, {"index": 0}, scripts_of, example(), thing, None, depth)
            self.refuses(BadAsks, {"index": 1}, scripts_of, example(), [(0, 0), (0, 2)], None, depth)
            for thing in NOT_SEQUENCES + ((), [], ((),) * 4):
                self.refuses(BadLots, {"hand": -1}, scripts_of, example(), (), thing, depth)
            for thing in NOT_SEQUENCES + ((2,), [True], (0.0,)):
                self.refuses(BadLots, {"hand": 1}, scripts_of, example(), (), [(1,), thing, None], depth)
        for depth in NOT_NUMBERS + (-1, 4, 10 ** 100):
            self.refuses(BadDepth, {}, scripts_of, example(), (), ((0,),), depth)
        self.assertSame(scripts_of(example(), [(4, 1)] * 200, ((0,),), 3), (((0, 0, ((0, 0, ((0, 0, ()),)),)),),))

    def test_4_calls_and_depth_3(self):
        program = Foreign((1,), rows_of(SAY, SAY, SAY, SAY))
        self.assertSame(scripts_of(program, (), ([3, 1, 0, 2],), 3), (full_script(4, 3),))

    def test_what_is_passed_stays(self):
        past, lots = [[0, 0]], [[1, 0, 1], []]
        found = scripts_of(example(), past, lots, 1)
        self.assertSame((past, lots), ([[0, 0]], [[1, 0, 1], []]))
        lots[0].clear()
        self.assertSame(found, (((0, 0, ()), (1, 1, ())), ()))


class TestUnmetPrograms(Case):

    def test_a_right_program_that_does_not_meet_shows_that_its_wish_is_had(self):
        dice = random.Random(206)
        tried, deep = 0, 0
        while tried < 150:
            calls = dice.choice((1, 2, 2))
            program, lots = drawn_program(dice, calls), drawn_lots(dice, calls)
            past = [(dice.randrange(10), dice.randrange(calls)) for _ in range(dice.randrange(4))]
            book = book_of(program)
            self.assertIs(program_fault(book, program, 4), None)
            if meet_fault(program, past, lots) is None:
                depth = dice.randrange(4) if len(lots) < 3 and calls == 1 else dice.randrange(3 if len(lots) < 3 else 2)
                history = run_program(program, past).entries
                wish = Wish(book, history, scripts_of(program, past, lots, depth))
                self.assertIs(is_had(wish), True)
                self.assertIs(kept_fault(wish, program), None)
                tried += 1
                deep += depth > 1 and len([lot for lot in lots if lot]) > 1
        self.assertGreater(deep, 10)

    def test_programs_of_wishes_do_not_meet_within_their_scripts(self):
        for wish in had_wishes(207, 30):
            program, past = UnmetProgram(wish), [entry[:2] for entry in wish.past]
            cells = run_program(program, past).cells
            heads = [(hand, row[0]) for hand, script in enumerate(wish.scripts) for row in script]
            for one, other in product(heads, repeat=2):
                if one[0] != other[0]:
                    found = exchange(program, cells, one, other)
                    self.assertIs(found.meets, None)
                    self.assertEqual(found.ahead, found.behind)
                    self.assertEqual(do_step(program, do_step(program, cells, *one)[2], *other)[2], found.ahead[2])

    def test_lists_through_and_through(self):
        lists = as_lists(rows_of(SET, LOOK))
        self.assertSame(meet_fault(Foreign([2], lists), [[0, 0]], [[0], [1]]), ((0, 0), (1, 1)))
