"""Point 3: states, steps and runs."""

import inspect
import unittest

from liveswap.errors import BadCount, BadProgram, BadState
from liveswap.programs import need_state, ran, step
from tests.helper import NO_TUPLES, ODD, all_numbers, all_states, check_refused, kept, outside

STOP = ("stop",)
# Tells 0 to 2 for ever.
ROUND = (1, 2, [("tell", 0), ("more", 0), ("go", 0)])
# Tells the first box, and the second once for each number that the first is short of nought.
DOWN = (2, 2, [("tell", 0), ("ask", 0, 5), ("tell", 1), ("more", 0), ("go", 1), STOP])
# A row of each kind; told are 1, then 2 and 2.
KINDS = (2, 2, [
    ("put", 0, 1), ("tell", 0), ("more", 0), ("copy", 1, 0), ("tell", 1),
    ("ask", 1, 9), ("tell", 0), ("put", 1, 0), ("go", 5), STOP,
])


def ran_by_steps(program, state, most):
    """What ran is to tell, worked out by step."""
    told = []
    for _ in range(most):
        if state is not None:
            state, number = step(program, state)
            told += [] if number is None else [number]
    return told, state


class States(unittest.TestCase):
    def taken(self, program, thing):
        before = kept((program, thing))
        self.assertIs(need_state(program, thing), thing)
        self.assertEqual((program, thing), before)

    def refused(self, program, thing):
        check_refused(self, BadState, need_state, program, thing)
        check_refused(self, BadState, step, program, thing)
        check_refused(self, BadState, ran, program, thing, 1)

    def test_the_interface(self):
        self.assertEqual(list(inspect.signature(need_state).parameters), ["program", "thing"])
        self.assertEqual(list(inspect.signature(step).parameters), ["program", "state"])
        self.assertEqual(list(inspect.signature(ran).parameters), ["program", "state", "most"])

    def test_every_state(self):
        for program in [ROUND, DOWN, KINDS, (0, 1, [STOP]), (0, 4, [STOP] * 20), (3, 4, [("tell", 2), STOP])]:
            for state in all_states(program):
                self.taken(program, state)

    def test_a_state_that_no_run_comes_to(self):
        self.taken((1, 1, [STOP, ("more", 0), STOP]), (1, (1,)))

    def test_what_is_no_pair(self):
        for thing in ODD + [0, (0,), ((0, 0),), (0, 0), (0, 0, 0), [0, (0, 0)], (0, (0, 0), None), ((0, 0), 0),
                            (None, None), "ab", {0: 0, 1: 1}]:
            self.refused(DOWN, thing)

    def test_another_row(self):
        for row in outside(0, 5):
            self.refused(DOWN, (row, (0, 0)))
        self.refused((0, 1, [STOP]), (1, ()))
        self.refused((0, 1, [STOP]), (-1, ()))

    def test_numbers_that_are_no_tuple(self):
        for thing in NO_TUPLES + [0, [0, 0], {0: 0, 1: 0}, "00", b"ab", range(2)]:
            self.refused(DOWN, (0, thing))
        for thing in NO_TUPLES:
            self.refused((0, 1, [STOP]), (0, thing))

    def test_another_many_of_numbers(self):
        for boxes in range(4):
            for many in range(7):
                program = (boxes, 1, [STOP])
                if many == boxes:
                    self.taken(program, (0, (1,) * many))
                else:
                    self.refused(program, (0, (1,) * many))

    def test_another_number(self):
        for most in [1, 2, 3, 4]:
            for boxes in [1, 2, 3]:
                for box in range(boxes):
                    for number in outside(0, most):
                        numbers = [0] * boxes
                        numbers[box] = number
                        self.refused((boxes, most, [STOP]), (0, tuple(numbers)))

    def test_what_is_refused_is_not_changed(self):
        thing = (0, [0, 0])
        self.refused(DOWN, thing)
        self.assertEqual(thing, (0, [0, 0]))

    def test_of_what_is_no_program(self):
        for thing in ODD + [0, (1, 2, []), (1, 2, tuple(ROUND[2])), (True, 2, ROUND[2])]:
            for state in [(0, (0,)), None]:
                check_refused(self, BadProgram, need_state, thing, state)
                check_refused(self, BadProgram, step, thing, state)
                check_refused(self, BadProgram, ran, thing, state, None)


class Steps(unittest.TestCase):
    def steps(self, program, state, answer):
        before = kept((program, state))
        got = step(program, state)
        self.assertEqual(got, answer)
        self.assertIs(type(got), tuple)
        self.assertEqual((program, state), before)
        self.assertEqual(step(program, state), answer)

    def test_put(self):
        program = (3, 4, [("put", 1, 4), ("put", 0, 0), ("put", 2, 1), STOP])
        self.steps(program, (0, (1, 2, 3)), ((1, (1, 4, 3)), None))
        self.steps(program, (0, (1, 4, 3)), ((1, (1, 4, 3)), None))
        self.steps(program, (1, (1, 2, 3)), ((2, (0, 2, 3)), None))
        self.steps(program, (2, (1, 2, 3)), ((3, (1, 2, 1)), None))

    def test_more(self):
        for most in [1, 2, 3, 4]:
            program = (2, most, [("more", 1), ("more", 0), STOP])
            for number in range(most):
                self.steps(program, (0, (1, number)), ((1, (1, number + 1)), None))
                self.steps(program, (1, (number, 1)), ((2, (number + 1, 1)), None))
            self.steps(program, (0, (most, most)), ((1, (most, 0)), None))
            self.steps(program, (1, (most, most)), ((2, (0, most)), None))

    def test_copy(self):
        program = (3, 4, [("copy", 0, 2), ("copy", 2, 0), ("copy", 1, 1), STOP])
        self.steps(program, (0, (1, 2, 3)), ((1, (3, 2, 3)), None))
        self.steps(program, (1, (1, 2, 3)), ((2, (1, 2, 1)), None))
        self.steps(program, (2, (1, 2, 3)), ((3, (1, 2, 3)), None))
        self.steps(program, (0, (4, 4, 0)), ((1, (0, 4, 0)), None))

    def test_tell(self):
        program = (3, 4, [("tell", 0), ("tell", 1), ("tell", 2), STOP])
        for box in range(3):
            self.steps(program, (box, (0, 4, 2)), ((box + 1, (0, 4, 2)), (0, 4, 2)[box]))

    def test_go(self):
        program = (1, 2, [("go", 2), ("go", 1), ("go", 0), ("go", 3)])
        for row, other in [(0, 2), (1, 1), (2, 0), (3, 3)]:
            self.steps(program, (row, (1,)), ((other, (1,)), None))

    def test_ask(self):
        program = (2, 4, [("ask", 0, 3), ("ask", 1, 0), ("ask", 0, 2), STOP])
        for number in range(5):
            self.steps(program, (0, (0, number)), ((3, (0, number)), None))
            self.steps(program, (2, (0, number)), ((2, (0, number)), None))
            self.steps(program, (1, (number, 0)), ((0, (number, 0)), None))
        for number in range(1, 5):
            self.steps(program, (0, (number, 0)), ((1, (number, 0)), None))
            self.steps(program, (2, (number, 0)), ((3, (number, 0)), None))
            self.steps(program, (1, (0, number)), ((2, (0, number)), None))

    def test_stop(self):
        program = (1, 1, [STOP, ("tell", 0), STOP])
        for row in [0, 2]:
            for number in [0, 1]:
                self.steps(program, (row, (number,)), (None, None))

    def test_without_boxes(self):
        program = (0, 1, [("go", 2), STOP, ("go", 1)])
        self.steps(program, (0, ()), ((2, ()), None))
        self.steps(program, (1, ()), (None, None))
        self.steps(program, (2, ()), ((1, ()), None))

    def test_a_told_nought_is_a_number(self):
        got = step(ROUND, (0, (0,)))
        self.assertIs(type(got[1]), int)
        self.assertEqual(got, ((1, (0,)), 0))

    def test_every_step_leads_to_a_state(self):
        for program in [ROUND, DOWN, KINDS]:
            for state in all_states(program):
                leads, _ = step(program, state)
                if leads is not None:
                    need_state(program, leads)
                self.assertEqual(leads is None, program[2][state[0]] == STOP)


class Runs(unittest.TestCase):
    def runs(self, program, state, most, answer):
        before = kept((program, state))
        got = ran(program, state, most)
        self.assertEqual(got, answer)
        self.assertIs(type(got), tuple)
        self.assertIs(type(got[0]), list)
        self.assertEqual((program, state), before)

    def test_to_the_end(self):
        self.runs(KINDS, (0, (0, 0)), 100, ([1, 2, 2], None))
        self.runs(DOWN, (0, (0, 2)), 100, ([0], None))
        self.runs(DOWN, (0, (1, 2)), 100, ([1, 2, 2], None))
        self.runs(DOWN, (0, (2, 0)), 100, ([2, 0], None))

    def test_cut_short(self):
        told = [[], [], [1], [1], [1], [1, 2], [1, 2], [1, 2, 2], [1, 2, 2], [1, 2, 2], [1, 2, 2]]
        states = [
            (0, (0, 0)), (1, (1, 0)), (2, (1, 0)), (3, (2, 0)), (4, (2, 2)), (5, (2, 2)),
            (6, (2, 2)), (7, (2, 2)), (8, (2, 0)), (5, (2, 0)), (9, (2, 0)),
        ]
        for many, state in enumerate(states):
            self.runs(KINDS, (0, (0, 0)), many, (told[many], state))
        for many in [11, 12, 13, 1000]:
            self.runs(KINDS, (0, (0, 0)), many, ([1, 2, 2], None))

    def test_a_count_of_nought(self):
        for program in [ROUND, DOWN, KINDS, (0, 1, [STOP])]:
            for state in all_states(program):
                self.runs(program, state, 0, ([], state))

    def test_the_stop_is_a_step(self):
        self.runs((0, 1, [STOP]), (0, ()), 0, ([], (0, ())))
        self.runs((0, 1, [STOP]), (0, ()), 1, ([], None))
        self.runs((0, 1, [STOP]), (0, ()), 2, ([], None))

    def test_for_ever(self):
        self.runs(ROUND, (0, (1,)), 9, ([1, 2, 0], (0, (1,))))
        self.runs(ROUND, (0, (1,)), 10, ([1, 2, 0, 1], (1, (1,))))
        self.runs((0, 1, [("go", 0)]), (0, ()), 1000, ([], (0, ())))

    def test_twenty_rows(self):
        program = (1, 4, [("more", 0), ("tell", 0)] * 9 + [("more", 0), ("go", 1)])
        self.runs(program, (0, (4,)), 18, ([0, 1, 2, 3, 4, 0, 1, 2, 3], (18, (3,))))
        self.runs(program, (0, (4,)), 21, ([0, 1, 2, 3, 4, 0, 1, 2, 3, 4], (2, (4,))))

    def test_as_the_steps_say(self):
        for program in [ROUND, DOWN, KINDS]:
            for state in all_states(program):
                for most in [0, 1, 2, 3, 5, 8, 13, 40]:
                    self.runs(program, state, most, ran_by_steps(program, state, most))

    def test_from_each_begin(self):
        for numbers in all_numbers(DOWN):
            told = [numbers[0]] + [numbers[1]] * (-numbers[0] % 3)
            self.runs(DOWN, (0, numbers), 1000, (told, None))

    def test_great_counts(self):
        told, state = ran(ROUND, (0, (0,)), 1000000)
        self.assertEqual((len(told), state), (333334, (1, (0,))))
        self.assertEqual(told, ([0, 1, 2] * 111112)[:333334])
        self.runs(KINDS, (0, (0, 0)), 1000000, ([1, 2, 2], None))

    def test_another_count(self):
        for most in ODD + [-1, -2, -(10 ** 30), -(10 ** 5000)]:
            for state in [(0, (0,)), (2, (1,))]:
                check_refused(self, BadCount, ran, ROUND, state, most)

    def test_a_state_is_refused_ahead_of_a_count(self):
        for most in ODD + [-1, 0, 1]:
            for state in [None, (3, (0,)), (0, (3,)), (0, [0]), (False, (0,))]:
                check_refused(self, BadState, ran, ROUND, state, most)


class OnesOwn(unittest.TestCase):
    def test_what_was_told_may_be_changed(self):
        first = ran(KINDS, (0, (0, 0)), 100)
        second = ran(KINDS, (0, (0, 0)), 100)
        self.assertIsNot(first[0], second[0])
        first[0].append(9)
        first[0][0] = 7
        self.assertEqual(second, ([1, 2, 2], None))
        self.assertEqual(ran(KINDS, (0, (0, 0)), 100), ([1, 2, 2], None))

    def test_what_was_handed_in_may_be_changed_later(self):
        program = kept(KINDS)
        told = ran(program, (0, (0, 0)), 100)
        stepped = step(program, (1, (1, 0)))
        program[2].clear()
        self.assertEqual(told, ([1, 2, 2], None))
        self.assertEqual(stepped, ((2, (1, 0)), 1))

    def test_a_program_that_is_changed_is_run_as_it_is_now(self):
        program = kept(KINDS)
        ran(program, (0, (0, 0)), 100)
        program[2][0] = ("put", 0, 0)
        self.assertEqual(ran(program, (0, (0, 0)), 100), ([0, 1, 1], None))
        self.assertEqual(ran(KINDS, (0, (0, 0)), 100), ([1, 2, 2], None))

    def test_the_same_questions_in_another_order(self):
        asked = [(program, state) for program in [ROUND, DOWN, KINDS] for state in all_states(program)]
        forth = [(step(*pair), ran(*pair, 20)) for pair in asked]
        back = [(step(*pair), ran(*pair, 20)) for pair in reversed(asked)]
        self.assertEqual(forth, back[::-1])

    def test_what_is_refused_changes_nothing(self):
        program = kept(KINDS)
        check_refused(self, BadState, ran, program, (10, (0, 0)), 5)
        check_refused(self, BadCount, ran, program, (0, (0, 0)), -5)
        self.assertEqual(program, KINDS)
        self.assertEqual(ran(program, (0, (0, 0)), 100), ([1, 2, 2], None))


if __name__ == "__main__":
    unittest.main()
