"""Points 7 and 8: begins, what a change meets, and whether it is safe."""

import inspect
import random
import unittest

from liveswap import looking
from liveswap.errors import BadPlaces, BadProgram, BadState
from liveswap.looking import begins, looked, met
from liveswap.programs import ran
from tests.helper import (
    ODD, all_numbers, all_states, check_refused, kept, made_places, made_program, made_small, met_by_steps, outside,
    run_from, turned_by_hand,
)

STOP = ("stop",)
NONE = (0, 1, [STOP])
TURNED = (("is", 0),)
NOT_TURNED = (("is", None),)
# Tells 0 to 2 for ever.
ROUND = (1, 2, [("tell", 0), ("more", 0), ("go", 0)])
# Counts its box up to nought, then stops.
DOWN = (1, 2, [("ask", 0, 3), ("more", 0), ("go", 0), STOP])
# Is over where the box holds nought, else comes into the round of the rows 3 and 4.
EITHER = (1, 3, [("ask", 0, 5), ("put", 0, 1), ("go", 3), ("tell", 0), ("go", 3), STOP])
# The numbers of the three boxes, as one, count up for ever, and then begin anew.
COUNTER = (3, 4, [
    ("more", 0), ("ask", 0, 3), ("go", 0), ("more", 1), ("ask", 1, 6), ("go", 0), ("more", 2), ("go", 0),
])
# Of the 125 times that it counts, the first box does not come to nought 100 times, it does but
# the second one does not 20 times, and both do 5 times; these take 3, 5 and 6 steps.
COUNTED = 100 * 3 + 20 * 5 + 5 * 6
# From noughts it is at row 6 first where both come to nought the first time.
TO_ROW_6 = 20 * 3 + 4 * 5 + 4


def at_rows(rows, rules=TURNED, other=0):
    return [(row, other, rules) for row in rows]


def safe_by_each(one, places):
    """True if no change that is asked for in a run from a begin meets what is not safe."""
    for begin in all_numbers(one):
        for state in run_from(one, (0, begin)):
            if met_by_steps(one, places, state)[0] in ("stuck", "missed"):
                return False
    return True


class Begins(unittest.TestCase):
    def test_the_interface(self):
        for name, parameters in [
            ("begins", ["program"]), ("met", ["one", "places", "state"]), ("looked", ["one", "two", "places"]),
        ]:
            self.assertEqual(list(inspect.signature(getattr(looking, name)).parameters), parameters)
            self.assertEqual(getattr(looking, name).__module__, "liveswap.looking")

    def test_all_rising(self):
        self.assertEqual(begins(NONE), [()])
        self.assertEqual(begins(ROUND), [(0,), (1,), (2,)])
        self.assertEqual(begins((2, 1, [STOP])), [(0, 0), (0, 1), (1, 0), (1, 1)])

    def test_each_number_of_boxes_and_each_most(self):
        for boxes in range(4):
            for most in range(1, 5):
                program = (boxes, most, [STOP])
                got = begins(program)
                self.assertEqual(len(got), (most + 1) ** boxes)
                self.assertEqual(got, sorted(all_numbers(program)))
                self.assertIs(type(got), list)
                self.assertEqual({type(begin) for begin in got}, {tuple})

    def test_what_is_told_is_the_askers_own(self):
        begins(ROUND).clear()
        got = begins(ROUND)
        got.append(None)
        self.assertEqual(begins(ROUND), [(0,), (1,), (2,)])
        self.assertEqual(ROUND, (1, 2, [("tell", 0), ("more", 0), ("go", 0)]))

    def test_of_what_is_no_program(self):
        for thing in ODD + [0, (1, 2, []), (4, 1, [STOP]), [1, 2, [STOP]]]:
            check_refused(self, BadProgram, begins, thing)


class Met(unittest.TestCase):
    def met(self, one, places, state, answer):
        before = kept((one, places, state))
        got = met(one, places, state)
        self.assertEqual(got, answer)
        self.assertIs(type(got), tuple)
        self.assertEqual((one, places, state), before)
        self.assertEqual(met(one, places, state), answer)

    def test_comes_at_once(self):
        for row in range(3):
            for number in range(3):
                self.met(ROUND, at_rows([row]), (row, (number,)), ("comes", 0))
                self.met(ROUND, at_rows([0, 1, 2]), (row, (number,)), ("comes", 0))

    def test_comes_behind_some_steps(self):
        self.met(ROUND, at_rows([0]), (1, (2,)), ("comes", 2))
        self.met(ROUND, at_rows([0]), (2, (2,)), ("comes", 1))
        self.met(ROUND, at_rows([2]), (0, (2,)), ("comes", 2))
        self.met(ROUND, at_rows([2, 1]), (0, (2,)), ("comes", 1))
        self.met(DOWN, at_rows([3]), (0, (0,)), ("comes", 1))
        self.met(DOWN, at_rows([3]), (0, (2,)), ("comes", 4))
        self.met(DOWN, at_rows([3]), (0, (1,)), ("comes", 7))

    def test_comes_at_a_stop(self):
        self.met(NONE, [(0, 0, ())], (0, ()), ("comes", 0))
        self.met(DOWN, at_rows([3]), (3, (2,)), ("comes", 0))

    def test_stuck(self):
        self.met(ROUND, at_rows([0], NOT_TURNED), (0, (1,)), ("stuck", 0))
        self.met(ROUND, at_rows([0], NOT_TURNED), (1, (1,)), ("stuck", 2))
        self.met(NONE, [(0, 0, NOT_TURNED)], (0, ()), ("stuck", 0))

    def test_the_numbers_are_those_that_the_run_comes_with(self):
        places = at_rows([2], (("by", 0, (0, None, 1)),))
        self.met(ROUND, places, (0, (0,)), ("stuck", 2))
        self.met(ROUND, places, (0, (1,)), ("comes", 2))
        self.met(ROUND, places, (0, (2,)), ("comes", 2))
        self.met(ROUND, places, (2, (1,)), ("stuck", 0))

    def test_the_first_place_that_the_run_comes_to(self):
        places = at_rows([0], NOT_TURNED) + at_rows([2])
        self.met(ROUND, places, (1, (1,)), ("comes", 1))
        self.met(ROUND, places, (0, (1,)), ("stuck", 0))
        self.met(ROUND, places[::-1], (0, (1,)), ("stuck", 0))
        places = at_rows([0]) + at_rows([2], NOT_TURNED)
        self.met(ROUND, places, (1, (1,)), ("stuck", 1))
        self.met(ROUND, places, (0, (1,)), ("comes", 0))

    def test_without_boxes_all_is_turned(self):
        self.met(ROUND, [(2, 0, ())], (0, (1,)), ("comes", 2))

    def test_over(self):
        self.met(NONE, [], (0, ()), ("over", 1))
        self.met(DOWN, [], (3, (0,)), ("over", 1))
        self.met(DOWN, [], (0, (0,)), ("over", 2))
        self.met(DOWN, [], (0, (2,)), ("over", 5))
        self.met(DOWN, at_rows([1, 2]), (0, (0,)), ("over", 2))
        self.met(DOWN, at_rows([0, 1, 2]), (3, (1,)), ("over", 1))

    def test_missed_in_the_round(self):
        self.met((0, 1, [("go", 0)]), [], (0, ()), ("missed", 0, 1))
        self.met((0, 1, [("go", 1), ("go", 0)]), [], (1, ()), ("missed", 0, 2))
        for row in range(3):
            self.met(ROUND, [], (row, (1,)), ("missed", 0, 9))
        self.met(EITHER, at_rows([0, 1, 2, 5]), (4, (3,)), ("missed", 0, 2))

    def test_missed_ahead_of_the_round(self):
        self.met((0, 1, [("go", 1), ("go", 1)]), [], (0, ()), ("missed", 1, 1))
        self.met(EITHER, at_rows([5]), (0, (3,)), ("missed", 3, 2))
        self.met(EITHER, at_rows([0, 1, 5]), (2, (3,)), ("missed", 1, 2))
        program = (2, 4, [("copy", 1, 0), ("more", 0), ("ask", 0, 4), ("go", 1), ("tell", 1), ("go", 4)])
        self.met(program, [], (0, (1, 3)), ("missed", 12, 2))
        self.met(program, at_rows([0]), (1, (1, 3)), ("missed", 11, 2))

    def test_a_round_of_states_not_of_rows(self):
        self.met((1, 4, [("more", 0), ("go", 0)]), [], (0, (3,)), ("missed", 0, 10))
        self.met((1, 4, [("put", 0, 2), ("go", 0)]), [], (0, (3,)), ("missed", 1, 2))
        self.met((1, 4, [("put", 0, 2), ("go", 0)]), [], (1, (3,)), ("missed", 2, 2))
        self.met((1, 4, [("put", 0, 2), ("go", 0)]), [], (0, (2,)), ("missed", 0, 2))

    def test_a_long_round(self):
        self.met(COUNTER, [], (0, (0, 0, 0)), ("missed", 0, COUNTED))
        self.met(COUNTER, [(6, 0, ())], (0, (0, 0, 0)), ("comes", TO_ROW_6))
        self.met(COUNTER, [(6, 0, (("by", 2, (0, 0, 0, 0, None)),))], (0, (0, 0, 4)), ("stuck", TO_ROW_6))

    def test_twenty_rows(self):
        program = (1, 1, [("tell", 0)] * 19 + [STOP])
        for row in range(20):
            self.met(program, [], (row, (1,)), ("over", 20 - row))
            self.met(program, at_rows([19]), (row, (1,)), ("comes", 19 - row))
            self.met(program, at_rows(range(20)), (row, (1,)), ("comes", 0))

    def test_a_state_that_no_run_comes_to(self):
        self.met((0, 1, [STOP, ("go", 1)]), [], (1, ()), ("missed", 0, 1))

    def test_some(self):
        chance = random.Random(3)
        words = {}
        for _ in range(300):
            one, two = made_small(chance), made_small(chance)
            places = made_places(chance, one, two, chance.choice([0, 15, 40, 100]), 15)
            for state in all_states(one):
                answer = met_by_steps(one, places, state)
                words[answer[0]] = words.get(answer[0], 0) + 1
                self.met(one, places, state, answer)
        self.assertEqual(sorted(words), ["comes", "missed", "over", "stuck"])
        self.assertGreater(min(words.values()), 100)

    def test_another_state(self):
        for places in [[], at_rows([0])]:
            for thing in ODD + [0, (0,), (0, 0), (0, (0,), 0), [0, (0,)], (0, [0]), (0, ()), (0, (0, 0)), (0, None)]:
                check_refused(self, BadState, met, ROUND, places, thing)
            for row in outside(0, 2):
                check_refused(self, BadState, met, ROUND, places, (row, (0,)))
            for number in outside(0, 2):
                check_refused(self, BadState, met, ROUND, places, (0, (number,)))

    def test_of_what_is_no_program(self):
        for thing in ODD + [0, (1, 2, []), (4, 1, [STOP])]:
            check_refused(self, BadProgram, met, thing, [], (0, (0,)))
            check_refused(self, BadProgram, met, thing, [], None)


class Looked(unittest.TestCase):
    def looked(self, one, two, places, safe):
        """Fails unless it is told rightly whether the change is safe; the run that is told is gone through."""
        before = kept((one, two, places))
        got = looked(one, two, places)
        self.assertIs(type(got), tuple)
        self.assertEqual(got == ("safe",), safe)
        if not safe:
            word, begin, many = got
            self.assertIn(begin, all_numbers(one))
            self.assertIs(type(many), int)
            self.assertIn(many, range(len(all_states(one))))
            _, state = ran(one, (0, begin), many)
            self.assertIsNotNone(state)
            self.assertEqual(met(one, places, state)[0], word)
            self.assertIn(word, ["stuck", "missed"])
        self.assertEqual((one, two, places), before)
        self.assertEqual(looked(one, two, places), got)
        return got

    def test_a_place_in_the_round(self):
        for rows in [[0], [1], [2], [0, 1], [0, 1, 2]]:
            self.looked(ROUND, ROUND, at_rows(rows), True)

    def test_over_is_safe(self):
        self.looked(NONE, NONE, [], True)
        self.looked(NONE, NONE, [(0, 0, ())], True)
        self.looked(DOWN, ROUND, [], True)
        self.looked(DOWN, ROUND, at_rows([1]), True)

    def test_missed_at_once(self):
        got = self.looked((0, 1, [("go", 0)]), NONE, [], False)
        self.assertEqual(got, ("missed", (), 0))
        self.assertEqual(self.looked(ROUND, ROUND, [], False)[0], "missed")

    def test_missed_behind_a_place(self):
        program = (0, 1, [("go", 1), ("go", 1)])
        self.assertEqual(self.looked(program, NONE, [(0, 0, ())], False), ("missed", (), 1))
        self.looked(program, NONE, [(1, 0, ())], True)

    def test_missed_from_some_begins_alone(self):
        self.assertEqual(self.looked(EITHER, ROUND, at_rows([0, 1, 2, 5]), False)[0], "missed")
        self.looked(EITHER, ROUND, at_rows([3]), True)
        self.looked(EITHER, ROUND, at_rows([4]), True)
        program = (2, 4, [("ask", 1, 3), ("more", 1), ("ask", 1, 5), ("more", 0), ("ask", 0, 6), STOP, ("go", 6)])
        got = self.looked(program, NONE, [], False)
        self.assertEqual(got[:2], ("missed", (4, 0)))
        self.assertIn(got[2], [3, 4, 5])

    def test_stuck(self):
        self.assertEqual(self.looked(NONE, ROUND, [(0, 0, NOT_TURNED)], False), ("stuck", (), 0))
        self.assertEqual(self.looked(ROUND, ROUND, at_rows([1], NOT_TURNED), False)[0], "stuck")
        self.looked(ROUND, ROUND, at_rows([0]) + at_rows([1], NOT_TURNED), False)

    def test_stuck_with_one_number_alone(self):
        for number in range(4):
            rules = tuple(None if at == number else 1 for at in range(4))
            # Behind its row 1 that program holds a one, whatever the begin.
            self.looked(EITHER, ROUND, at_rows([3], (("by", 0, rules),)), number != 1)
            # It comes to its row 5 with nought, and to its row 1 with another number.
            self.looked(EITHER, ROUND, at_rows([3]) + at_rows([5], (("by", 0, rules),)), number != 0)
            self.looked(EITHER, ROUND, at_rows([3]) + at_rows([1], (("by", 0, rules),)), number == 0)
            self.looked(EITHER, ROUND, at_rows([3]) + at_rows([0], (("by", 0, rules),)), False)

    def test_what_no_run_comes_to_does_not_matter(self):
        program = (1, 1, [("put", 0, 0), ("ask", 0, 4), ("tell", 0), ("go", 3), STOP])
        self.looked(program, ROUND, [], True)
        self.looked(program, ROUND, at_rows([2, 3], NOT_TURNED), True)
        self.looked(program, ROUND, at_rows([4], (("by", 0, (0, None)),)), True)
        self.looked(program, ROUND, at_rows([4], (("by", 0, (None, 0)),)), False)

    def test_behind_a_place_the_first_goes_on_too(self):
        # A change may be asked for later than at the first place that a run comes to.
        program = (0, 1, [("go", 1), ("go", 2), ("go", 3), ("go", 3)])
        self.looked(program, ROUND, [(0, 0, TURNED), (3, 0, TURNED)], True)
        self.assertEqual(self.looked(program, ROUND, [(0, 0, TURNED), (2, 0, TURNED)], False)[0], "missed")
        got = self.looked(program, ROUND, [(0, 0, TURNED), (2, 0, NOT_TURNED), (3, 0, TURNED)], False)
        self.assertIn(got, [("stuck", (), 1), ("stuck", (), 2)])

    def test_the_largest(self):
        self.assertEqual(self.looked(COUNTER, COUNTER, [], False)[0], "missed")
        same = tuple(("by", box, (0, 1, 2, 3, 4)) for box in range(3))
        self.looked(COUNTER, COUNTER, [(6, 0, same)], True)
        self.looked(COUNTER, NONE, [(6, 0, ())], True)
        # At row 6 it holds nought in the first two boxes, and in the last one any number.
        for box, safe in [(0, True), (1, True), (2, False)]:
            rules = same[:2] + (("by", box, (0, 1, 2, 3, None)),)
            self.looked(COUNTER, COUNTER, [(6, 0, rules)], safe)

    def test_twenty_rows_and_twenty_places(self):
        program = (3, 4, COUNTER[2][:7] + [("tell", 0)] * 12 + [("go", 0)])
        self.looked(program, NONE, [(row, 0, ()) for row in range(20)], True)
        self.looked(program, NONE, [(row, 0, ()) for row in range(19)], True)
        self.looked(program, NONE, [], False)
        # It comes to its last row with nought in its second box alone.
        for worths, safe in [((0, None, None, None, None), True), ((None, 0, 0, 0, 0), False)]:
            self.looked(program, ROUND, at_rows(range(19)) + [(19, 0, (("by", 1, worths),))], safe)

    def test_some(self):
        chance = random.Random(4)
        counts = {}
        for _ in range(600):
            one, two = made_small(chance), made_small(chance)
            places = made_places(chance, one, two, chance.choice([0, 30, 100]), chance.choice([0, 15]))
            got = self.looked(one, two, places, safe_by_each(one, places))
            counts[got[0]] = counts.get(got[0], 0) + 1
        self.assertEqual(sorted(counts), ["missed", "safe", "stuck"])
        self.assertGreater(min(counts.values()), 40)

    def test_some_of_many_states(self):
        chance = random.Random(5)
        for _ in range(20):
            one, two = made_program(chance, 3, 4, 20), made_program(chance, 3, 4, 20)
            places = made_places(chance, one, two, 80, 0)
            there = {row: rules for row, _, rules in places}
            got = looked(one, two, places)
            # With no None nothing is stuck.
            self.assertIn(got[0], ["safe", "missed"])
            self.assertTrue(all(turned_by_hand(rules, (0, 0, 0)) for rules in there.values()))
            self.looked(one, two, places, got == ("safe",))

    def test_of_what_is_no_program(self):
        for thing in ODD + [0, (1, 2, []), (4, 1, [STOP])]:
            for places in [[], None, [None]]:
                check_refused(self, BadProgram, looked, thing, ROUND, places)
                check_refused(self, BadProgram, looked, ROUND, thing, places)
                check_refused(self, BadProgram, looked, thing, thing, places)

    def test_of_what_are_no_places(self):
        for thing in ODD + [0, (), at_rows([3]), at_rows([0, 0]), at_rows([0], ()), at_rows([0], TURNED, 3)]:
            if not (type(thing) is list and thing == []):
                check_refused(self, BadPlaces, looked, ROUND, ROUND, thing)

    def test_the_same_questions_in_another_order(self):
        chance = random.Random(6)
        asked = []
        for _ in range(60):
            one, two = made_small(chance), made_small(chance)
            asked.append((one, two, made_places(chance, one, two, 40, 10)))
        forth = [looked(*three) for three in asked]
        back = [looked(*three) for three in reversed(asked)]
        self.assertEqual(forth, back[::-1])

    def test_what_is_handed_in_and_changed_later_is_looked_at_anew(self):
        places, program = at_rows([0]), kept(ROUND)
        self.assertEqual(looked(program, ROUND, places), ("safe",))
        places.clear()
        self.assertEqual(self.looked(program, ROUND, places, False)[0], "missed")
        program[2][2] = STOP
        self.assertEqual(looked(program, ROUND, places), ("safe",))
        self.assertEqual(met(program, places, (0, (0,))), ("over", 3))


if __name__ == "__main__":
    unittest.main()
