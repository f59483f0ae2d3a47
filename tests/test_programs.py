"""Point 2 and need_program: what a program is, and what is none."""

import inspect
import unittest

from liveswap import programs
from liveswap.errors import BadProgram
from liveswap.programs import need_program
from tests.helper import NO_TUPLES, ODD, check_refused, kept, outside, with_part

STOP = ("stop",)


def all_kinds():
    """A program of two boxes, up to 3, with a row of each kind, and the bound of each part."""
    return (2, 3, [
        ("put", 1, 3),
        ("more", 0),
        ("copy", 0, 1),
        ("tell", 1),
        ("ask", 0, 6),
        ("go", 0),
        ("stop",),
    ])


# The highest of each part of each row of that program.
HIGHEST = {"put": (1, 3), "more": (1,), "copy": (1, 1), "tell": (1,), "ask": (1, 6), "go": (6,), "stop": ()}


def with_row(at, row):
    """That program, but with this row there."""
    boxes, most, rows = all_kinds()
    return boxes, most, rows[:at] + [row] + rows[at + 1:]


class Programs(unittest.TestCase):
    def taken(self, thing):
        before = kept(thing)
        self.assertIs(need_program(thing), thing)
        self.assertEqual(thing, before)

    def refused(self, thing):
        check_refused(self, BadProgram, need_program, thing)

    def test_the_interface(self):
        self.assertEqual(list(inspect.signature(need_program).parameters), ["thing"])
        for name in ["need_program", "need_state", "step", "ran"]:
            self.assertEqual(getattr(programs, name).__module__, "liveswap.programs")

    def test_each_kind_of_row(self):
        self.taken(all_kinds())

    def test_each_part_at_its_edges(self):
        for at, row in enumerate(all_kinds()[2][:-1]):
            for part, highest in enumerate(HIGHEST[row[0]], start=1):
                for number in range(highest + 1):
                    with self.subTest(row=row, part=part, number=number):
                        self.taken(with_row(at, with_part(row, part, number)))

    def test_each_number_of_boxes(self):
        for boxes in [0, 1, 2, 3]:
            self.taken((boxes, 1, [STOP]))
            for box in range(boxes):
                self.taken((boxes, 1, [("tell", box), ("more", box), ("copy", box, box), STOP]))
            self.refused((boxes, 1, [("tell", boxes), STOP]))

    def test_each_most(self):
        for most in [1, 2, 3, 4]:
            for number in range(most + 1):
                self.taken((1, most, [("put", 0, number), STOP]))
            self.refused((1, most, [("put", 0, most + 1), STOP]))

    def test_the_number_of_rows(self):
        for many in range(1, 21):
            self.taken((1, 1, [("more", 0)] * (many - 1) + [STOP]))
            self.taken((1, 1, [("more", 0)] * (many - 1) + [("go", many - 1)]))
            self.refused((1, 1, [("more", 0)] * (many - 1) + [("go", many)]))
        for many in [21, 22, 100]:
            self.refused((1, 1, [("more", 0)] * (many - 1) + [STOP]))
        self.refused((1, 1, []))

    def test_the_last_row(self):
        for row in [("go", 0), ("go", 1), STOP]:
            self.taken((2, 3, [STOP, row]))
            self.taken((2, 3, [row, STOP]))
        for row in [("put", 0, 1), ("more", 0), ("copy", 0, 1), ("tell", 0), ("ask", 0, 0)]:
            with self.subTest(row):
                self.taken((2, 3, [row, STOP]))
                self.refused((2, 3, [STOP, row]))
                self.refused((2, 3, [row]))

    def test_rows_behind_which_none_comes_are_rows(self):
        self.taken((0, 4, [("go", 0), STOP, STOP]))


class NoPrograms(unittest.TestCase):
    def refused(self, thing):
        check_refused(self, BadProgram, need_program, thing)

    def test_what_is_no_tuple_of_three(self):
        for thing in ODD + [0, 1, -1, 10 ** 30]:
            self.refused(thing)
        whole = all_kinds()
        for thing in [list(whole), whole[:2], whole[1:], whole + (0,), whole + (None,), (whole,)]:
            self.refused(thing)
        self.refused({"boxes": 2, "most": 3, "rows": whole[2]})

    def test_another_number_of_boxes(self):
        for boxes in outside(0, 3):
            self.refused((boxes, 3, [STOP]))
            self.refused(with_part(all_kinds(), 0, boxes))

    def test_too_few_boxes_for_the_rows(self):
        self.refused(with_part(all_kinds(), 0, 1))
        self.refused(with_part(all_kinds(), 0, 0))

    def test_another_most(self):
        for most in outside(1, 4):
            self.refused((0, most, [STOP]))
            self.refused(with_part(all_kinds(), 1, most))

    def test_too_small_a_most_for_the_rows(self):
        self.refused(with_part(all_kinds(), 1, 2))

    def test_rows_that_are_no_list(self):
        rows = all_kinds()[2]
        for thing in ODD + [0, tuple(rows), iter(rows), dict(enumerate(rows)), set(rows)]:
            self.refused((2, 3, thing))

    def test_rows_that_are_no_rows(self):
        for at, row in enumerate(all_kinds()[2]):
            for thing in ODD + [0, 1, list(row), row[0], row + (0,), row + (None,), (row,), row[1:]]:
                self.refused(with_row(at, thing))

    def test_another_kind(self):
        for at, row in enumerate(all_kinds()[2]):
            for kind in ODD + [0, "pt", "Put", "PUT", "put ", " put", "jump", "tell\n", "p" * 10000, "\ud800"]:
                if not (type(kind) is str and kind == row[0]):
                    self.refused(with_row(at, with_part(row, 0, kind)))

    def test_a_part_too_few(self):
        for at, row in enumerate(all_kinds()[2]):
            self.refused(with_row(at, row[:-1]))

    def test_each_part_beyond_its_edges(self):
        for at, row in enumerate(all_kinds()[2]):
            for part, highest in enumerate(HIGHEST[row[0]], start=1):
                for thing in outside(0, highest):
                    with self.subTest(row=row, part=part):
                        self.refused(with_row(at, with_part(row, part, thing)))

    def test_a_row_that_is_never_done_must_be_a_row_too(self):
        self.refused((1, 1, [("go", 2), ("put", 0, 2), STOP]))
        self.refused((0, 1, [STOP, ("more", 0), STOP]))

    def test_no_part_is_looked_up_from_the_end(self):
        for row in [("put", -1, 0), ("put", 0, -1), ("more", -1), ("copy", -1, 0), ("copy", 0, -1),
                    ("tell", -1), ("go", -1), ("ask", -1, 0), ("ask", 0, -1)]:
            self.refused((2, 3, [row, STOP]))

    def test_odd_things_are_not_touched_in_a_long_list(self):
        for thing in NO_TUPLES:
            self.refused((1, 1, [("more", 0)] * 18 + [thing, STOP]))
            self.refused((1, 1, [("more", 0)] * 19 + [thing]))


class SameAgain(unittest.TestCase):
    def test_the_same_question_is_answered_alike(self):
        program = all_kinds()
        for _ in range(3):
            self.assertEqual(need_program(program), all_kinds())
            check_refused(self, BadProgram, need_program, (2, 3, []))

    def test_an_equal_program_of_its_own_is_not_mixed_up(self):
        first, second = all_kinds(), all_kinds()
        need_program(first)[2].append(("tell", 0))
        self.assertEqual(need_program(second), all_kinds())
        check_refused(self, BadProgram, need_program, first)

    def test_what_is_refused_is_not_changed(self):
        for thing in [(2, 3, []), (2, 3, [("put", 0, 9), STOP]), [1, 2], ("stop",), (1, 1, [["stop"]])]:
            before = kept(thing)
            check_refused(self, BadProgram, need_program, thing)
            self.assertEqual(thing, before)

    def test_a_program_that_is_changed_is_looked_at_anew(self):
        program = all_kinds()
        need_program(program)
        program[2].append(("more", 0))
        check_refused(self, BadProgram, need_program, program)
        program[2].append(STOP)
        self.assertIs(need_program(program), program)


if __name__ == "__main__":
    unittest.main()
