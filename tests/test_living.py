"""Points 6 and 10, and point 1 of a machine that lives: steps, changes, and what is told of them."""

import inspect
import random
import unittest

from liveswap.errors import BadPlaces, BadProgram, BadState, Busy, Over, SwapError, Unsafe
from liveswap.living import Live
from liveswap.looking import looked, met
from liveswap.places import joined
from liveswap.programs import ran, step
from tests.helper import (
    NO_TUPLES, ODD, all_numbers, check_refused, kept, made_places, made_small, met_by_steps, outside, turned_by_hand,
)

STOP = ("stop",)
NONE = (0, 1, [STOP])
# Tells 0 to 2 for ever.
ROUND = (1, 2, [("tell", 0), ("more", 0), ("go", 0)])
# Tells both of its boxes, the second one going up to nought, then stops.
PAIR = (2, 4, [("tell", 0), ("tell", 1), ("more", 1), ("ask", 1, 5), ("go", 0), STOP])
# From row 1 of ROUND to row 1 of PAIR: the first box a three, the second one by the number.
THERE = [(1, 1, (("is", 3), ("by", 0, (2, None, 4))))]
# From rows of PAIR to row 0 of ROUND.
BACK = [(5, 0, (("by", 1, (1, 2, 2, 2, 2)),)), (0, 0, (("by", 0, (0, 1, 2, 0, 1)),))]


def seen(live):
    """All that is told of it."""
    return live.state(), live.program(), live.said(), live.waits(), live.changed()


def far(live, many=40):
    """All that is told of it along so many steps."""
    told = [seen(live)]
    for _ in range(many):
        told.append((live.go(), *seen(live)))
    return told


class Told(unittest.TestCase):
    def told(self, live, state, program, said, waits=False, changed=0):
        for _ in range(2):
            self.assertEqual(live.state(), state)
            self.assertEqual(live.program(), program)
            self.assertEqual(live.said(), said)
            self.assertIs(live.waits(), waits)
            self.assertEqual(live.changed(), changed)
        self.assertIs(type(live.said()), list)
        self.assertIs(type(live.program()), tuple)
        self.assertIs(type(live.changed()), int)

    def went(self, live, many):
        for _ in range(many):
            self.assertIs(live.go(), True)

    def unsafe(self, live, two, places, shown):
        with self.assertRaises(SwapError) as caught:
            live.ask(two, places)
        self.assertIs(type(caught.exception), Unsafe)
        self.assertEqual(caught.exception.shown, shown)
        self.assertIs(type(caught.exception.shown), tuple)


class Steps(Told):
    def test_the_interface(self):
        self.assertEqual(Live.__module__, "liveswap.living")
        self.assertEqual(list(inspect.signature(Live).parameters), ["program", "begin"])
        for name, parameters in [("go", []), ("ask", ["two", "places"]), ("said", []), ("state", []),
                                 ("program", []), ("waits", []), ("changed", [])]:
            self.assertEqual(list(inspect.signature(getattr(Live, name)).parameters), ["self"] + parameters)
            self.assertIn(name, vars(Live))

    def test_from_the_begin(self):
        live = Live(ROUND, (1,))
        self.told(live, (0, (1,)), ROUND, [])
        self.went(live, 1)
        self.told(live, (1, (1,)), ROUND, [1])
        self.went(live, 6)
        self.told(live, (1, (0,)), ROUND, [1, 2, 0])

    def test_over(self):
        live = Live(NONE, ())
        self.told(live, (0, ()), NONE, [])
        self.went(live, 1)
        self.told(live, None, NONE, [])
        for _ in range(3):
            self.assertIs(live.go(), False)
            self.told(live, None, NONE, [])
        live = Live(PAIR, (1, 4))
        self.went(live, 5)
        self.told(live, None, PAIR, [1, 4])
        self.assertIs(live.go(), False)
        self.told(live, None, PAIR, [1, 4])

    def test_each_begin(self):
        for program in [ROUND, PAIR, NONE, (3, 2, [("tell", 2), ("tell", 1), ("tell", 0), STOP])]:
            for begin in all_numbers(program):
                live = Live(program, begin)
                for many in range(30):
                    said, state = ran(program, (0, begin), many)
                    self.told(live, state, program, said)
                    self.assertIs(live.go(), state is not None)

    def test_two_of_one_program(self):
        first, second = Live(ROUND, (0,)), Live(ROUND, (0,))
        self.went(first, 4)
        self.told(second, (0, (0,)), ROUND, [])
        first.ask(PAIR, [(1, 5, (("is", 0), ("is", 0)))])
        self.told(second, (0, (0,)), ROUND, [])
        self.told(first, (5, (0, 0)), PAIR, [0, 1], changed=1)

    def test_of_what_is_no_program(self):
        for thing in ODD + [0, (1, 2, []), (4, 1, [STOP]), list(ROUND), (1, 2, tuple(ROUND[2]))]:
            for begin in [(0,), (), None]:
                check_refused(self, BadProgram, Live, thing, begin)

    def test_of_what_is_no_begin(self):
        for thing in NO_TUPLES + [0, (), (0, 0), [0], (0, (0,)), ((0,),)]:
            check_refused(self, BadState, Live, ROUND, thing)
        for number in outside(0, 2):
            check_refused(self, BadState, Live, ROUND, (number,))
        for box in range(2):
            for number in outside(0, 4):
                check_refused(self, BadState, Live, PAIR, (number, 1) if box == 0 else (1, number))
        for thing in NO_TUPLES + [0, (0,), [], ((),)]:
            check_refused(self, BadState, Live, NONE, thing)


class Changes(Told):
    def test_within_the_asking(self):
        live = Live(ROUND, (0,))
        self.went(live, 1)
        self.assertIsNone(live.ask(PAIR, THERE))
        self.told(live, (1, (3, 2)), PAIR, [0], changed=1)
        self.went(live, 1)
        self.told(live, (2, (3, 2)), PAIR, [0, 2], changed=1)
        self.went(live, 4)
        self.told(live, (1, (3, 3)), PAIR, [0, 2, 3], changed=1)

    def test_within_a_later_step(self):
        live = Live(ROUND, (2,))
        self.assertIsNone(live.ask(PAIR, [(2, 3, (("by", 0, (4, 0, 0)), ("is", 1)))]))
        self.told(live, (0, (2,)), ROUND, [], waits=True)
        self.went(live, 1)
        self.told(live, (1, (2,)), ROUND, [2], waits=True)
        self.went(live, 1)
        self.told(live, (3, (4, 1)), PAIR, [2], changed=1)
        self.went(live, 2)
        self.told(live, (0, (4, 1)), PAIR, [2], changed=1)

    def test_within_the_first_step(self):
        live = Live(ROUND, (2,))
        live.ask(PAIR, THERE)
        self.told(live, (0, (2,)), ROUND, [], waits=True)
        self.went(live, 1)
        self.told(live, (1, (3, 4)), PAIR, [2], changed=1)

    def test_at_a_stop(self):
        live = Live(NONE, ())
        live.ask(ROUND, [(0, 2, (("is", 1),))])
        self.told(live, (2, (1,)), ROUND, [], changed=1)
        self.went(live, 2)
        self.told(live, (1, (1,)), ROUND, [1], changed=1)

    def test_to_a_stop(self):
        live = Live(ROUND, (0,))
        live.ask(NONE, [(0, 0, ())])
        self.told(live, (0, ()), NONE, [], changed=1)
        self.went(live, 1)
        self.told(live, None, NONE, [], changed=1)
        self.assertIs(live.go(), False)
        self.told(live, None, NONE, [], changed=1)

    def test_to_the_same_program(self):
        live = Live(ROUND, (0,))
        live.ask(ROUND, [(0, 0, (("by", 0, (2, 1, 0)),))])
        self.told(live, (0, (2,)), ROUND, [], changed=1)

    def test_over_ahead_of_it(self):
        for places in [[], [(0, 0, (("is", 0),))]]:
            live = Live(PAIR, (0, 4))
            self.went(live, 1)
            live.ask(ROUND, places)
            self.told(live, (1, (0, 4)), PAIR, [0], waits=True)
            self.went(live, 3)
            self.told(live, (5, (0, 0)), PAIR, [0, 4], waits=True)
            self.went(live, 1)
            self.told(live, None, PAIR, [0, 4])
            self.assertIs(live.go(), False)
            self.told(live, None, PAIR, [0, 4])

    def test_several_one_behind_another(self):
        live = Live(ROUND, (2,))
        live.ask(PAIR, THERE)
        self.went(live, 1)
        self.told(live, (1, (3, 4)), PAIR, [2], changed=1)
        live.ask(ROUND, BACK)
        self.told(live, (1, (3, 4)), PAIR, [2], waits=True, changed=1)
        self.went(live, 3)
        self.told(live, (0, (1,)), ROUND, [2, 4], changed=2)
        live.ask(NONE, [(2, 0, ())])
        self.went(live, 1)
        self.told(live, (1, (1,)), ROUND, [2, 4, 1], waits=True, changed=2)
        self.went(live, 1)
        self.told(live, (0, ()), NONE, [2, 4, 1], changed=3)
        live.ask(PAIR, [(0, 4, (("is", 2), ("is", 4)))])
        self.told(live, (4, (2, 4)), PAIR, [2, 4, 1], changed=4)
        self.went(live, 6)
        self.told(live, None, PAIR, [2, 4, 1, 2, 4], changed=4)

    def test_several_within_one_state(self):
        live = Live(ROUND, (0,))
        for many in range(1, 6):
            live.ask(ROUND, [(0, 0, (("by", 0, (1, 2, 0)),))])
            self.told(live, (0, (many % 3,)), ROUND, [], changed=many)

    def test_the_places_of_a_change_that_has_come_count_no_more(self):
        live = Live(ROUND, (0,))
        live.ask(ROUND, [(row, row, (("is", 1),)) for row in range(3)])
        self.told(live, (0, (1,)), ROUND, [], changed=1)
        self.went(live, 9)
        self.told(live, (0, (1,)), ROUND, [1, 2, 0], changed=1)

    def test_the_largest(self):
        one = (3, 4, [("tell", box) for box in [0, 1, 2]] * 6 + [("more", 2), ("go", 1)])
        places = [(row, 19 - row, tuple(("by", box, (4, 3, 2, 1, 0)) for box in [2, 0, 1])) for row in range(20)]
        live = Live(one, (4, 1, 0))
        self.went(live, 18)
        live.ask(one, places)
        self.told(live, (1, (4, 0, 3)), one, [4, 1, 0] * 6, changed=1)

    def test_joined_places_lead_at_once(self):
        later = [(1, 2, (("by", 1, (0, 0, 1, 0, 2)),))]
        for begin in [(0,), (2,)]:
            twice, once = Live(ROUND, begin), Live(ROUND, begin)
            for live in [twice, once]:
                self.went(live, 1)
            twice.ask(PAIR, THERE)
            twice.ask(ROUND, later)
            once.ask(ROUND, joined(THERE, later))
            self.assertEqual(once.changed(), 1)
            self.assertEqual(twice.changed(), 2)
            self.assertEqual([told[:-1] for told in far(once)], [told[:-1] for told in far(twice)])


class Refusals(Told):
    def after(self, live, error, *asked):
        before = seen(live)
        check_refused(self, error, live.ask, *asked)
        self.assertEqual(seen(live), before)

    def test_over(self):
        live = Live(NONE, ())
        self.went(live, 1)
        for two in ODD + [ROUND, (4, 1, [STOP])]:
            for places in [[], None, [(0, 0, ())]]:
                self.after(live, Over, two, places)

    def test_over_of_one_that_was_waited_for(self):
        live = Live(PAIR, (0, 4))
        live.ask(ROUND, [])
        self.went(live, 4)
        self.after(live, Busy, ROUND, [])
        self.went(live, 1)
        self.after(live, Over, ROUND, [])
        self.after(live, Over, None, None)

    def test_busy(self):
        live = Live(ROUND, (0,))
        live.ask(PAIR, [(2, 0, (("is", 0), ("is", 3)))])
        for two in ODD + [ROUND, PAIR, (4, 1, [STOP])]:
            for places in [[], None, [(0, 0, (("is", 0),))], [(1, 0, (("is", None),))]]:
                self.after(live, Busy, two, places)
        self.went(live, 1)
        self.after(live, Busy, PAIR, THERE)
        self.went(live, 1)
        self.told(live, (0, (0, 3)), PAIR, [0], changed=1)
        live.ask(ROUND, BACK)
        self.told(live, (0, (0,)), ROUND, [0], changed=2)

    def test_of_what_is_no_program(self):
        live = Live(ROUND, (0,))
        for two in ODD + [0, (1, 2, []), (4, 1, [STOP]), list(PAIR)]:
            for places in [[], None, THERE, [(0, 0, ())]]:
                self.after(live, BadProgram, two, places)

    def test_of_what_are_no_places(self):
        live = Live(ROUND, (0,))
        for places in ODD + [0, (), tuple(THERE), THERE * 2, [(3, 0, (("is", 0), ("is", 0)))], [(0, 0, (("is", 0),))],
                             [(0, 0, (("is", 5), ("is", 0)))], [(0, 0, (("by", 0, (0, 0)), ("is", 0)))]]:
            if not (type(places) is list and places == []):
                self.after(live, BadPlaces, PAIR, places)

    def test_bad_places_ahead_of_unsafe(self):
        # Missed would be the first two, and stuck the other ones.
        live = Live(ROUND, (0,))
        for places in [(), None, [None], [(0, 0, (("is", None),))], [(0, 0, (("is", None), ("is", 5)))],
                       [(0, 0, (("is", None), ("is", 0))), (0, 0, (("is", None), ("is", 0)))]]:
            self.after(live, BadPlaces, PAIR, places)

    def test_the_places_are_of_the_program_that_runs(self):
        live = Live(ROUND, (0,))
        self.after(live, BadPlaces, ROUND, BACK)
        live.ask(PAIR, [(0, 0, (("is", 0), ("is", 0)))])
        self.after(live, BadPlaces, PAIR, THERE)
        live.ask(ROUND, BACK)
        self.told(live, (0, (0,)), ROUND, [], changed=2)

    def test_the_order(self):
        live = Live(ROUND, (0,))
        self.after(live, BadProgram, None, None)
        self.after(live, BadPlaces, PAIR, None)
        self.after(live, Unsafe, PAIR, [])
        live.ask(PAIR, [(1, 1, (("is", 0), ("is", 0)))])
        self.after(live, Busy, None, None)


class Unsafes(Told):
    def test_stuck(self):
        live = Live(ROUND, (0,))
        self.unsafe(live, PAIR, [(0, 0, (("is", None), ("is", 0)))], ("stuck", 0))
        self.unsafe(live, PAIR, [(2, 0, (("is", 1), ("by", 0, (0, None, 0))))], ("stuck", 2))
        self.told(live, (0, (0,)), ROUND, [])

    def test_stuck_at_the_present_state_alone(self):
        live = Live(ROUND, (0,))
        self.went(live, 4)
        self.unsafe(live, PAIR, THERE, ("stuck", 0))
        self.told(live, (1, (1,)), ROUND, [0, 1])
        self.went(live, 1)
        live.ask(PAIR, THERE)
        self.told(live, (2, (2,)), ROUND, [0, 1], waits=True)
        self.went(live, 2)
        self.told(live, (1, (3, 4)), PAIR, [0, 1, 2], changed=1)

    def test_missed(self):
        live = Live(ROUND, (1,))
        self.unsafe(live, PAIR, [], ("missed", 0, 9))
        live = Live((0, 1, [("go", 2), STOP, ("go", 3), ("go", 3)]), ())
        self.unsafe(live, NONE, [(1, 0, ())], ("missed", 2, 1))
        self.went(live, 1)
        self.unsafe(live, NONE, [(0, 0, ())], ("missed", 1, 1))
        self.went(live, 5)
        self.unsafe(live, NONE, [(0, 0, ()), (2, 0, ())], ("missed", 0, 1))
        self.assertEqual(seen(live), ((3, ()), (0, 1, [("go", 2), STOP, ("go", 3), ("go", 3)]), [], False, 0))

    def test_one_that_is_not_safe_may_be_asked_for_where_it_comes(self):
        self.assertNotEqual(looked(ROUND, PAIR, THERE), ("safe",))
        live = Live(ROUND, (2,))
        live.ask(PAIR, THERE)
        self.assertIs(live.waits(), True)

    def test_what_is_refused_changes_nothing(self):
        for many in range(8):
            one, other = Live(ROUND, (1,)), Live(ROUND, (1,))
            for _ in range(many):
                one.go()
                other.go()
                check_refused(self, Unsafe, one.ask, PAIR, [])
                check_refused(self, Unsafe, one.ask, PAIR, [(row, 0, (("is", None),) * 2) for row in range(3)])
                check_refused(self, BadPlaces, one.ask, PAIR, [None])
                check_refused(self, BadProgram, one.ask, None, [])
            places = [(row, 0, (("by", 0, (0, 1, 2)), ("is", 2))) for row in [0, 2]]
            one.ask(PAIR, places)
            other.ask(PAIR, places)
            if one.waits():
                check_refused(self, Busy, one.ask, ROUND, [])
            self.assertEqual(far(one), far(other))
            self.assertIs(one.state(), None)
            check_refused(self, Over, one.ask, ROUND, [])
            self.assertEqual(far(one), far(other))


class OnesOwn(Told):
    def test_what_is_handed_in_is_not_changed(self):
        handed = [kept(thing) for thing in [ROUND, (2,), PAIR, THERE, ROUND, BACK]]
        live = Live(handed[0], handed[1])
        live.ask(handed[2], handed[3])
        far(live, 3)
        live.ask(handed[4], handed[5])
        far(live)
        self.assertEqual(live.changed(), 2)
        self.assertEqual(handed, [ROUND, (2,), PAIR, THERE, ROUND, BACK])

    def test_what_is_handed_in_may_be_changed_later(self):
        def lived(meddle):
            one, two, places = kept(ROUND), kept(PAIR), kept(THERE)
            live = Live(one, (2,))
            meddle(one[2])
            told = far(live, 3)
            live.ask(two, places)
            meddle(two[2])
            meddle(places)
            told += far(live, 2)
            one, back = kept(ROUND), kept(BACK)
            live.ask(one, back)
            meddle(one[2])
            meddle(back)
            told += far(live, 20)
            self.assertEqual(live.changed(), 2)
            return told

        left = lived(lambda rows: None)
        for meddle in [list.clear, list.reverse, list.pop, lambda rows: rows.append(None),
                       lambda rows: rows.insert(0, STOP)]:
            self.assertEqual(lived(meddle), left)

    def test_places_that_are_changed_while_they_are_waited_for(self):
        for change in [list.clear, list.pop, lambda places: places.append((0, 0, (("is", 0), ("is", 0)))),
                       lambda places: places.insert(0, None)]:
            places = kept(THERE)
            live = Live(ROUND, (2,))
            live.ask(PAIR, places)
            change(places)
            self.told(live, (0, (2,)), ROUND, [], waits=True)
            self.went(live, 1)
            self.told(live, (1, (3, 4)), PAIR, [2], changed=1)

    def test_a_program_that_is_changed_while_it_is_waited_for(self):
        two = kept(PAIR)
        live = Live(ROUND, (2,))
        live.ask(two, THERE)
        two[2].clear()
        self.went(live, 2)
        self.told(live, (2, (3, 4)), PAIR, [2, 4], changed=1)

    def test_a_list_that_was_told_may_be_changed(self):
        live = Live(ROUND, (1,))
        self.went(live, 2)
        said, program = live.said(), live.program()
        said.append(9)
        said[0] = None
        program[2].clear()
        self.told(live, (2, (2,)), ROUND, [1])
        self.went(live, 2)
        self.told(live, (1, (2,)), ROUND, [1, 2])

    def test_what_was_told_stays(self):
        live = Live(ROUND, (1,))
        told = [seen(live)]
        before = kept(told)
        for _ in range(5):
            live.go()
            told.append(seen(live))
            before.append(kept(seen(live)))
        live.ask(PAIR, [(row, 0, (("is", 1), ("is", 1))) for row in range(3)])
        live.program()[2].append(None)
        told.append(seen(live))
        before.append(kept(seen(live)))
        far(live)
        self.assertEqual(told, before)

    def test_a_program_that_was_told_after_a_change_may_be_changed(self):
        two = kept(PAIR)
        live = Live(ROUND, (2,))
        live.ask(two, [(0, 0, (("is", 1), ("is", 4)))])
        live.program()[2].clear()
        self.assertEqual(two, PAIR)
        self.went(live, 5)
        self.told(live, None, PAIR, [1, 4], changed=1)
        live.program()[2].clear()
        self.told(live, None, PAIR, [1, 4], changed=1)

    def test_a_told_program_may_be_asked_for(self):
        live = Live(ROUND, (0,))
        live.ask(live.program(), [(0, 2, (("is", 1),))])
        self.told(live, (2, (1,)), ROUND, [], changed=1)


class Model:
    """A machine that lives, as points 3 and 5 to 10 tell of it, by step alone."""

    def __init__(self, program, begin):
        self.now, self.runs, self.told, self.asked, self.many = (0, begin), program, [], None, 0

    def come(self):
        if self.now is None:
            self.asked = None
        for row, other, rules in self.asked[1] if self.asked else []:
            if row == self.now[0]:
                self.now, self.runs = (other, turned_by_hand(rules, self.now[1])), self.asked[0]
                self.asked = None
                self.many += 1
                return

    def go(self):
        if self.now is None:
            return False
        self.now, number = step(self.runs, self.now)
        self.told += [] if number is None else [number]
        self.come()
        return True

    def ask(self, two, places):
        """The class of the refusal and what it shows, or None."""
        if self.now is None:
            return Over, None
        if self.asked is not None:
            return Busy, None
        shown = met_by_steps(self.runs, places, self.now)
        if shown[0] in ("stuck", "missed"):
            return Unsafe, shown
        self.asked = (two, places)
        self.come()
        return None

    def seen(self):
        return self.now, self.runs, self.told, self.asked is not None, self.many


def asked(live, two, places):
    """What Model tells of the asking, of a Live."""
    try:
        live.ask(two, places)
    except SwapError as why:
        return type(why), getattr(why, "shown", None)
    return None


class AsTheModel(unittest.TestCase):
    def test_some(self):
        chance = random.Random(7)
        words, many, most = {}, 0, 0
        for _ in range(500):
            program = made_small(chance)
            begin = chance.choice(all_numbers(program))
            live, model = Live(program, begin), Model(program, begin)
            for _ in range(40):
                if chance.randrange(4):
                    self.assertIs(live.go(), model.go())
                else:
                    two = made_small(chance)
                    places = made_places(chance, model.runs, two, chance.choice([0, 20, 50, 100]), 10)
                    answer = asked(live, two, places)
                    self.assertEqual(answer, model.ask(two, places))
                    word = None if answer is None else answer[0].__name__
                    words[word] = words.get(word, 0) + 1
                self.assertEqual(seen(live), model.seen())
            many += live.changed()
            most = max(most, live.changed())
        self.assertEqual({word for word in words if word is not None}, {"Over", "Busy", "Unsafe"})
        self.assertGreater(min(words.values()), 50)
        self.assertGreater(many, 200)
        self.assertGreater(most, 4)

    def test_what_is_met_is_what_comes(self):
        chance = random.Random(8)
        words = {}
        for _ in range(400):
            one, two = made_small(chance), made_small(chance)
            begin = chance.choice(all_numbers(one))
            places = made_places(chance, one, two, 40, 10)
            live = Live(one, begin)
            shown = met(one, places, live.state())
            words[shown[0]] = words.get(shown[0], 0) + 1
            if shown[0] in ("stuck", "missed"):
                self.assertEqual(asked(live, two, places), (Unsafe, shown))
                continue
            self.assertIsNone(asked(live, two, places))
            for _ in range(shown[1]):
                self.assertEqual((live.waits(), live.changed(), live.program()), (True, 0, one))
                self.assertIs(live.go(), True)
            self.assertIs(live.waits(), False)
            self.assertEqual(live.changed(), 1 if shown[0] == "comes" else 0)
            self.assertEqual(live.state() is None, shown[0] == "over")
        self.assertEqual(sorted(words), ["comes", "missed", "over", "stuck"])

    def test_a_safe_change_is_never_refused(self):
        chance = random.Random(9)
        safe = 0
        for _ in range(200):
            one, two = made_small(chance), made_small(chance)
            places = made_places(chance, one, two, 60, 0)
            if looked(one, two, places) == ("safe",):
                safe += 1
                for begin in all_numbers(one):
                    for many in range(12):
                        live = Live(one, begin)
                        if all([live.go() for _ in range(many)]) and live.state() is not None:
                            self.assertIsNone(asked(live, two, places))
        self.assertGreater(safe, 50)

    def test_the_same_again(self):
        def lived():
            chance = random.Random(10)
            told = []
            for _ in range(60):
                one, two = made_small(chance), made_small(chance)
                live = Live(one, chance.choice(all_numbers(one)))
                answer = asked(live, two, made_places(chance, one, two, 50, 5))
                told.append((answer, far(live, 10)))
            return told

        self.assertEqual(lived(), lived())


if __name__ == "__main__":
    unittest.main()
