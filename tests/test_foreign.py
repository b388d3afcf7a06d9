"""[6.1] and [6.2], and of [6.10] what it says of the foreign program."""

import random
from itertools import product

from tests.helper import NOT_NUMBERS, NOT_SEQUENCES, Case, as_lists, as_tuples, mixed_forms
from unmetcells.errors import BadForeign
from unmetcells.foreign import Foreign
from unmetcells.steps import do_step, run_program

SAY = ("say", 0)
SET = ("write", 0, 1, SAY)
LOOK = ("read", 0, (("say", 0), ("say", 1)))
SIZES = (2, 3)


def rows_of(*deeds):
    """The same deeds for each hand."""
    return (deeds,) * 4


def drawn_deed(dice, sizes, left):
    """A deed with at most so many reads and writes on each way down it."""
    kind = dice.choice(("say", "read", "write")) if left > 0 else "say"
    cell = dice.randrange(len(sizes))
    if kind == "say":
        return ("say", dice.randrange(3))
    if kind == "read":
        return ("read", cell, tuple(drawn_deed(dice, sizes, left - 1) for _ in range(sizes[cell])))
    return ("write", cell, dice.randrange(sizes[cell]), drawn_deed(dice, sizes, left - 1))


def drawn_foreign(dice, calls, depth=5):
    """A program with this many calls."""
    sizes = tuple(dice.randrange(1, 4) for _ in range(dice.randrange(1, 4)))
    return Foreign(sizes, [[drawn_deed(dice, sizes, depth) for _ in range(calls)] for _ in range(4)])


def plain_step(foreign, values, hand, call):
    """Walk down a deed: the answer, the numbers of the cells that are read and written, and the values behind."""
    values, reads, writes = list(values), set(), set()
    deed = foreign.rows[3 if hand > 3 else hand][call]
    while deed[0] != "say":
        if deed[0] == "read":
            reads.add(f"c{deed[1]}")
            deed = deed[2][values[deed[1]]]
        else:
            writes.add(f"c{deed[1]}")
            values[deed[1]] = deed[2]
            deed = deed[3]
    return deed[1], (tuple(sorted(reads)), tuple(sorted(writes))), values


def deep(deed, many, word):
    """The deed below so many reads, or so many writes."""
    for _ in range(many):
        deed = ("write", 0, 1, deed) if word == "write" else ("read", 0, (deed, SAY))
    return deed


class TestForeign(Case):

    def test_attributes(self):
        for sizes in (list(SIZES), SIZES):
            for rows in mixed_forms(rows_of(SET, LOOK)):
                foreign = Foreign(sizes, rows)
                self.assertSame((foreign.sizes, foreign.rows, foreign.calls), (SIZES, rows_of(SET, LOOK), 2))
                self.assertTuples((foreign.sizes, foreign.rows))
        self.assertEqual(Foreign(sizes=(1,), rows=rows_of(SAY)), Foreign((1,), rows_of(SAY)))

    def test_1_to_4_calls_and_1_to_3_cells_of_1_to_3_values(self):
        for calls in range(1, 5):
            self.assertSame(Foreign((1,), rows_of(*[SAY] * calls)).calls, calls)
        for many in (1, 2, 3):
            for sizes in product((1, 2, 3), repeat=many):
                foreign = Foreign(sizes, rows_of(SAY))
                self.assertSame(foreign.sizes, sizes)
                self.assertSame(list(foreign.first_cells().items()), [(f"c{cell}", 0) for cell in range(many)])

    def test_drawn_programs_as_lists_and_tuples(self):
        dice = random.Random(171)
        for _ in range(60):
            foreign = drawn_foreign(dice, dice.randrange(1, 5))
            again = Foreign(as_lists(foreign.sizes), as_lists(foreign.rows))
            self.assertEqual(again, foreign)
            self.assertSame((again.sizes, again.rows), (foreign.sizes, foreign.rows))
            self.assertTuples((again.sizes, again.rows))

    def test_equal(self):
        one = Foreign(SIZES, rows_of(SET))
        self.assertTrue(one == Foreign([2, 3], as_lists(rows_of(SET))))
        self.assertFalse(one != Foreign(SIZES, rows_of(SET)))
        for other in (Foreign((2, 2), rows_of(SET)), Foreign((2,), rows_of(SET)), Foreign(SIZES, rows_of(SAY)),
                      Foreign(SIZES, rows_of(SET, SAY)), Foreign(SIZES, ((SET,),) * 3 + ((SAY,),)), (SIZES, rows_of(SET)),
                      None, 1, object()):
            self.assertFalse(one == other)
            self.assertTrue(one != other)
            self.assertFalse(other == one)

    def test_later_changes(self):
        sizes, rows = [2], as_lists(((SET, LOOK), (LOOK, SET), (SAY, SAY), (SET, SET)))
        foreign = Foreign(sizes, rows)
        self.assertSame((sizes, rows), ([2], as_lists(foreign.rows)))
        before = (foreign.sizes, foreign.rows)
        rows[0][0][3][1] = 2
        rows[0][1][2].clear()
        rows.append(7)
        sizes[0] = 1
        self.assertSame((foreign.sizes, foreign.rows), before)
        cells = foreign.first_cells()
        cells["c0"] = 1
        self.assertSame(foreign.first_cells(), {"c0": 0})


class TestSteps(Case):

    def test_example(self):
        foreign = Foreign((2,), rows_of(SET, LOOK))
        self.assertSame(run_program(foreign, ((3, 1), (0, 0), (9, 1))).answers, (0, 0, 1))
        self.assertSame(do_step(foreign, {"c0": 0}, 2, 0), (0, ((), ("c0",)), {"c0": 1}))
        self.assertSame(do_step(foreign, {"c0": 1}, 2, 1), (1, (("c0",), ()), {"c0": 1}))

    def test_against_a_walk_down_the_deed(self):
        dice = random.Random(172)
        for _ in range(150):
            foreign = drawn_foreign(dice, dice.randrange(1, 5))
            values = [dice.randrange(size) for size in foreign.sizes]
            for hand, call in product(range(10), range(foreign.calls)):
                cells = {f"c{cell}": value for cell, value in enumerate(values)}
                answer, marks, behind = plain_step(foreign, values, hand, call)
                wanted = {f"c{cell}": value for cell, value in enumerate(behind)}
                self.assertSame(do_step(foreign, cells, hand, call), (answer, marks, wanted))

    def test_a_read_behind_a_write_reads_what_was_written(self):
        deed = ("write", 0, 2, ("read", 0, (SAY, SAY, ("write", 0, 1, ("read", 0, (SAY, ("say", 2), SAY))))))
        foreign = Foreign((3,), rows_of(deed))
        self.assertSame(do_step(foreign, {"c0": 0}, 0, 0), (2, (("c0",), ("c0",)), {"c0": 1}))

    def test_the_last_row_serves_all_later_hands(self):
        foreign = Foreign((1,), ((SAY,), (("say", 1),), (("say", 2),), (("say", 1),)))
        self.assertSame([do_step(foreign, {"c0": 0}, hand, 0)[0] for hand in range(10)], [0, 1, 2] + [1] * 7)

    def test_bad_asks_are_refused_ahead_of_reads_and_writes(self):
        self.refusesBadAsks(Foreign((2,), rows_of(SET, LOOK)))


class TestRefused(Case):

    def refused(self, hand, call, what, sizes, rows):
        self.refuses(BadForeign, {"hand": hand, "call": call, "what": what}, Foreign, sizes, rows)

    def deed(self, what, *deeds):
        """Want that these deeds are refused, for hand 2 and call 1 and for hand 0 and call 0."""
        for deed in deeds:
            self.refused(2, 1, what, SIZES, ((SET, LOOK), (SET, LOOK), (SET, deed), (None, None)))
            self.refused(0, 0, what, list(SIZES), [[deed, None], [None, deed], [None, None], [deed, deed]])
            self.refused(3, 0, what, SIZES, [[SAY], [SAY], [SAY], [deed]])

    def below(self, what, *deeds):
        """Want that these deeds are refused at the top and below reads and writes, too."""
        self.deed(what, *deeds)
        for deed in deeds:
            for above in (1, 4):
                self.deed(what, deep(deed, above, "read"), deep(deed, above, "write"))
            self.deed(what, ("read", 1, (SAY, LOOK, deed)), ["write", 1, 2, ["read", 0, [SAY, deed]]])

    def test_sizes(self):
        for sizes in NOT_SEQUENCES + ((), [], (1,) * 4, [3] * 4, (0,), (4,), (1, 2, 4), (-1, 2), (1, (2,))):
            self.refused(-1, -1, "sizes", sizes, rows_of(SAY))
            self.refused(-1, -1, "sizes", sizes, None)
        for size in NOT_NUMBERS + (10 ** 100,):
            self.refused(-1, -1, "sizes", (1, size), rows_of(SAY))

    def test_rows(self):
        for rows in NOT_SEQUENCES + ((), [[SAY]] * 3, [[SAY]] * 5, ((SAY,),), (None,) * 5):
            self.refused(-1, -1, "rows", (1,), rows)

    def test_calls(self):
        for thing in NOT_SEQUENCES + ((), [], (SAY,) * 5, (None,) * 5):
            for hand in range(4):
                rows = [[SAY]] * hand + [thing] + [None] * (3 - hand)
                self.refused(hand, -1, "calls", (1,), rows)
        for hand in (1, 2, 3):
            for other in ((SAY,), (SAY,) * 3, (None,) * 4):
                self.refused(hand, -1, "calls", (1,), [[SAY, SAY]] * hand + [other] * (4 - hand))

    def test_calls_of_all_hands_come_before_deeds(self):
        self.refused(3, -1, "calls", (1,), [[None], [None], [None], []])
        self.refused(1, -1, "calls", (1,), [[None], [None, SAY], [None], [None]])

    def test_shape(self):
        self.below("shape", *NOT_SEQUENCES)
        self.below("shape", (), [], ("say",), ("tell",), ("",), (None,), ("say", 0, 0), ("read", 0), ("read", 0, (SAY, SAY), SAY), ("write", 0, 1),
                   ("write", 0, 1, SAY, SAY), ("Say", 0), ("", 0), ("tell", 0), (b"say", 0), (0, 0), (None, 0), (("say",), 0),
                   (["say"], 0), ("say", "say", "say"), ({}, 0, ()), "say", "sa")

    def test_answer(self):
        self.below("answer", *[("say", answer) for answer in NOT_NUMBERS + (3, -1, 10 ** 100)])

    def test_cell(self):
        for cell in NOT_NUMBERS + (2, -1, 10 ** 100):
            self.below("cell", ("read", cell, (SAY, SAY)), ("read", cell, None), ("write", cell, 0, SAY),
                       ["write", cell, 9, None])

    def test_deeds(self):
        for deeds in NOT_SEQUENCES + ((), (SAY,), (SAY,) * 3, [None] * 4, {0: SAY, 1: SAY}):
            self.below("deeds", ("read", 0, deeds))
        self.below("deeds", ("read", 1, (SAY, SAY)))

    def test_value(self):
        for value in NOT_NUMBERS + (2, -1, 10 ** 100):
            self.below("value", ("write", 0, value, SAY), ["write", 0, value, None])
        self.below("value", ("write", 1, 3, SAY))

    def test_five_reads_and_writes_and_six(self):
        for word in ("read", "write"):
            self.assertSame(Foreign(SIZES, rows_of(deep(SAY, 5, word))).rows[0][0], deep(SAY, 5, word))
            self.deed("depth", deep(SAY, 6, word), deep(SAY, 9, word), deep(("read", 7, None), 5, word),
                      deep(("write", 7, 7, None), 5, word), as_lists(deep(LOOK, 5, word)))
            self.deed("shape", deep(None, 5, word), deep(("read", 0), 5, word))
            self.deed("answer", deep(("say", 3), 5, word))

    def test_the_first_fault_of_several(self):
        self.deed("answer", ("read", 0, (("say", 7), None)), ("read", 0, (("read", 0, (("say", 7), None)), None)))
        self.deed("shape", ("read", 0, (None, ("say", 7))), ("write", 0, 1, None))
        self.deed("cell", ("write", 9, 9, None), ("read", 9, 9))
        self.deed("value", ("write", 0, 9, None))
        self.refused(0, 1, "answer", (1,), [[SAY, ("say", 4)], [None, SAY], [SAY, SAY], [SAY, SAY]])
        self.refused(1, 0, "shape", (1,), [[SAY, SAY], [None, ("say", 4)], [SAY, SAY], [SAY, SAY]])

    def test_values_by_the_cells_of_the_program(self):
        sizes = (1, 2, 3)
        for cell, value in product(range(3), range(4)):
            rows = rows_of(("write", cell, value, SAY))
            if value < sizes[cell]:
                self.assertSame(Foreign(sizes, rows).rows, rows)
            else:
                self.refused(0, 0, "value", sizes, rows)
            reads = rows_of(("read", cell, as_tuples([SAY] * value)))
            if value == sizes[cell]:
                self.assertSame(Foreign(sizes, reads).rows, reads)
            else:
                self.refused(0, 0, "deeds", sizes, reads)
