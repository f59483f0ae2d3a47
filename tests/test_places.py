"""Points 4, 5 and 9: places, rules, and places that are joined."""

import inspect
import random
import unittest

from liveswap import places as module
from liveswap.errors import BadPlaces, BadProgram
from liveswap.living import Live
from liveswap.looking import looked
from liveswap.places import joined, need_places, turned
from tests.helper import (
    NO_TUPLES, ODD, all_numbers, check_refused, kept, made_places, made_small, outside, turned_by_hand, with_part,
)

STOP = ("stop",)
# Two boxes up to 2, and four rows; three boxes up to 3, and five rows.
ONE = (2, 2, [("more", 0), ("tell", 1), ("copy", 1, 0), ("go", 0)])
TWO = (3, 3, [("tell", 0), ("tell", 1), ("tell", 2), ("more", 2), STOP])
NONE = (0, 1, [STOP])


def good_places():
    return [
        (1, 4, (("is", 3), ("by", 1, (0, None, 3)), ("is", None))),
        (3, 0, (("by", 0, (1, 1, 1)), ("by", 0, (None, None, None)), ("is", 0))),
        (0, 4, (("by", 1, (3, 2, 1)), ("is", 2), ("by", 1, (0, 1, 2)))),
    ]


def with_place(at, place):
    """The good places, but with this place there."""
    places = good_places()
    return places[:at] + [place] + places[at + 1:]


def with_rule(at, box, rule):
    """The good places, but with this rule there."""
    place = good_places()[at]
    return with_place(at, with_part(place, 2, with_part(place[2], box, rule)))


def each_rule():
    return [(at, box, rule) for at, place in enumerate(good_places()) for box, rule in enumerate(place[2])]


class Places(unittest.TestCase):
    def taken(self, one, two, places):
        before = kept((one, two, places))
        got = need_places(one, two, places)
        self.assertIs(type(got), list)
        self.assertIsNot(got, places)
        self.assertEqual(got, before[2])
        self.assertEqual((one, two, places), before)
        self.assertEqual(need_places(one, two, places), got)

    def test_the_interface(self):
        for name, parameters in [
            ("need_places", ["one", "two", "places"]),
            ("turned", ["rules", "numbers"]),
            ("joined", ["places", "later"]),
        ]:
            self.assertEqual(list(inspect.signature(getattr(module, name)).parameters), parameters)
            self.assertEqual(getattr(module, name).__module__, "liveswap.places")

    def test_no_place(self):
        for one in [ONE, TWO, NONE]:
            for two in [ONE, TWO, NONE]:
                self.taken(one, two, [])

    def test_good_places(self):
        self.taken(ONE, TWO, good_places())
        self.taken(ONE, TWO, good_places()[::-1])

    def test_twenty_places(self):
        one = (1, 1, [("more", 0)] * 19 + [STOP])
        places = [(row, row % 5, (("is", 1), ("by", 0, (2, None)), ("is", None))) for row in range(20)]
        self.taken(one, TWO, places)
        self.taken(one, TWO, places[::-1])
        self.taken(one, NONE, [(row, 0, ()) for row in range(20)])

    def test_each_row_of_each(self):
        rules = (("is", 0),) * 3
        for row in range(4):
            for other in range(5):
                self.taken(ONE, TWO, [(row, other, rules)])

    def test_two_places_with_one_row_of_the_second(self):
        self.taken(ONE, TWO, [(row, 2, (("is", 0),) * 3) for row in range(4)])

    def test_a_second_without_boxes(self):
        self.taken(ONE, NONE, [(2, 0, ()), (0, 0, ())])
        self.taken(NONE, NONE, [(0, 0, ())])

    def test_a_first_without_boxes(self):
        self.taken(NONE, TWO, [(0, 3, (("is", 3), ("is", None), ("is", 0)))])

    def test_three_boxes_and_most_four(self):
        three = (3, 4, [STOP])
        self.taken(three, three, [(0, 0, tuple(("by", box, (4, 3, 2, None, 0)) for box in [2, 0, 1]))])
        self.taken(three, three, [(0, 0, (("is", 4), ("is", 0), ("by", 2, (4,) * 5)))])

    def test_each_number(self):
        for most in [1, 2, 3, 4]:
            for second in [1, 2, 3, 4]:
                one, two = (2, most, [STOP]), (1, second, [STOP])
                for number in [*range(second + 1), None]:
                    self.taken(one, two, [(0, 0, (("is", number),))])
                    for box in [0, 1]:
                        for at in range(most + 1):
                            numbers = with_part((None,) * (most + 1), at, number)
                            self.taken(one, two, [(0, 0, (("by", box, numbers),))])

    def test_what_is_told_is_the_askers_own(self):
        places = good_places()
        got = need_places(ONE, TWO, places)
        got.append((2, 0, ()))
        got[0] = None
        self.assertEqual(places, good_places())
        self.assertEqual(need_places(ONE, TWO, places), good_places())

    def test_what_is_handed_in_may_be_changed_later(self):
        places = good_places()
        got = need_places(ONE, TWO, places)
        places.clear()
        self.assertEqual(got, good_places())


class NoPlaces(unittest.TestCase):
    def refused(self, places, one=ONE, two=TWO):
        check_refused(self, BadPlaces, need_places, one, two, places)
        check_refused(self, BadPlaces, looked, one, two, places)
        check_refused(self, BadPlaces, Live(one, (0,) * one[0]).ask, two, places)

    def test_what_is_no_list(self):
        for thing in ODD + [0, 1, tuple(good_places()), iter(good_places()), set(good_places()), good_places()[0]]:
            if not (type(thing) is list and thing == []):
                self.refused(thing)
        self.refused({place[0]: place for place in good_places()})
        self.refused({})
        self.refused(())

    def test_twenty_one_places(self):
        one = (0, 1, [("go", 0)] * 20)
        places = [(row, 0, ()) for row in range(20)]
        self.assertEqual(need_places(one, NONE, places), places)
        for more in [(0, 0, ()), (20, 0, ()), (19, 0, ()), None]:
            self.refused(places + [more], one, NONE)
        self.refused(places * 5, one, NONE)

    def test_a_row_told_twice(self):
        places = good_places()
        for place in places:
            self.refused(places + [place])
            self.refused([place, place])
            self.refused([(2, 0, (("is", 0),) * 3), place, (2, 1, (("is", 0),) * 3)])
            self.refused(places + [(place[0], (place[1] + 1) % 5, (("is", 1),) * 3)])

    def test_what_is_no_place(self):
        for at, place in enumerate(good_places()):
            for thing in ODD + [0, 1, list(place), place[:2], place[1:], place + (0,), place + (None,), place + ((),),
                                (place,), place[0], place[2]]:
                self.refused(with_place(at, thing))

    def test_another_row(self):
        for at, place in enumerate(good_places()):
            for row in outside(0, 3):
                self.refused(with_place(at, with_part(place, 0, row)))
            for other in outside(0, 4):
                self.refused(with_place(at, with_part(place, 1, other)))

    def test_a_row_of_the_other_program_alone(self):
        self.refused([(4, 0, ())], (0, 1, [STOP] * 4), (0, 1, [STOP] * 5))
        self.refused([(0, 4, ())], (0, 1, [STOP] * 5), (0, 1, [STOP] * 4))

    def test_rules_that_are_no_tuple(self):
        for at, place in enumerate(good_places()):
            for rules in NO_TUPLES + [0, list(place[2]), dict(enumerate(place[2]))]:
                self.refused(with_place(at, with_part(place, 2, rules)))
        for rules in NO_TUPLES:
            self.refused([(0, 0, rules)], ONE, NONE)

    def test_a_rule_too_many_or_too_few(self):
        for at, place in enumerate(good_places()):
            rules = place[2]
            for thing in [(), rules[:1], rules[:2], rules[1:], rules + (("is", 0),), rules + (None,), rules * 2]:
                self.refused(with_place(at, with_part(place, 2, thing)))
        self.refused([(0, 0, (("is", 0),))], ONE, NONE)
        self.refused([(0, 0, (("is", None),))], ONE, NONE)

    def test_what_is_no_rule(self):
        for at, box, rule in each_rule():
            for thing in ODD + [0, list(rule), rule[:1], rule[1:], rule + (0,), rule + (None,), rule + ((0, 0, 0),),
                                (rule,), rule[0], ("is",), ("by",), ("by", 0), ("is", 0, (0, 0, 0)),
                                ("by", (0, 0, 0)), ("by", (0, 0, 0), 0)]:
                self.refused(with_rule(at, box, thing))

    def test_a_rule_of_another_word(self):
        for at, box, rule in each_rule():
            for word in ODD + [0, "Is", "IS", "is ", " by", "By", "as", "put", "b" * 10000, "\ud800"]:
                self.refused(with_rule(at, box, with_part(rule, 0, word)))
        self.refused(with_rule(0, 0, ("by", 3)))
        self.refused(with_rule(0, 1, ("is", 1, (0, None, 3))))

    def test_another_number_of_an_is(self):
        for number in outside(0, 3) + [(0,), ((0, 0, 0),)]:
            if number is not None:
                self.refused(with_rule(0, 0, ("is", number)))
                self.refused(with_rule(1, 2, ("is", number)))

    def test_a_number_of_the_first_alone(self):
        self.refused([(0, 0, (("is", 4),))], (1, 4, [STOP]), (1, 3, [STOP]))
        self.refused([(0, 0, (("by", 0, (0, 1, 2, 3, 4)),))], (1, 4, [STOP]), (1, 3, [STOP]))

    def test_another_box_of_a_by(self):
        for at, box, rule in each_rule():
            if rule[0] == "by":
                for first in outside(0, 1):
                    self.refused(with_rule(at, box, with_part(rule, 1, first)))
        for first in [-1, 0, 1]:
            self.refused([(0, 0, (("by", first, (0, 0)),))], NONE, (1, 1, [STOP]))
        self.refused([(0, 0, (("by", 2, (0, 0)),))], (2, 1, [STOP]), (1, 1, [STOP]))

    def test_numbers_of_a_by_that_are_no_tuple(self):
        for at, box, rule in each_rule():
            if rule[0] == "by":
                for numbers in NO_TUPLES + [0, list(rule[2]), "000", b"000", range(3), dict(enumerate(rule[2]))]:
                    self.refused(with_rule(at, box, with_part(rule, 2, numbers)))

    def test_numbers_of_a_by_too_long_or_too_short(self):
        for at, box, rule in each_rule():
            if rule[0] == "by":
                for numbers in [(), rule[2][:1], rule[2][:2], rule[2] + (0,), rule[2] + (None,), rule[2] * 2]:
                    self.refused(with_rule(at, box, with_part(rule, 2, numbers)))

    def test_another_number_of_a_by(self):
        for at, box, rule in each_rule():
            if rule[0] == "by":
                for part in range(3):
                    for number in outside(0, 3) + [(0,), ()]:
                        if number is not None:
                            numbers = with_part(rule[2], part, number)
                            self.refused(with_rule(at, box, with_part(rule, 2, numbers)))

    def test_one_that_no_run_comes_to_is_refused_too(self):
        one = (1, 1, [STOP, ("more", 0), STOP])
        for place in [(1, 1, ()), (1, 0, (("is", 0),)), (3, 0, ()), None]:
            self.refused([(0, 0, ()), place], one, NONE)

    def test_what_is_refused_is_not_changed(self):
        places = good_places() + [(9, 0, ())]
        before = kept((ONE, TWO, places))
        self.refused(places)
        self.assertEqual((ONE, TWO, places), before)
        places.pop()
        self.assertEqual(need_places(ONE, TWO, places), good_places())


class NoProgram(unittest.TestCase):
    def test_programs_are_refused_ahead_of_places(self):
        for thing in ODD + [0, (1, 2, []), (0, 1, (STOP,)), [0, 1, [STOP]]]:
            for places in [[], good_places(), None, [None]]:
                check_refused(self, BadProgram, need_places, thing, TWO, places)
                check_refused(self, BadProgram, need_places, ONE, thing, places)
                check_refused(self, BadProgram, need_places, thing, thing, places)


class Turned(unittest.TestCase):
    def turned(self, rules, numbers, answer):
        got = turned(rules, numbers)
        self.assertEqual(got, answer)
        self.assertIs(type(got), type(answer))
        self.assertEqual(turned(rules, numbers), answer)

    def test_is(self):
        for number in range(5):
            for numbers in [(), (0,), (4, 3, 2)]:
                self.turned((("is", number),), numbers, (number,))

    def test_by(self):
        for number, answer in enumerate([3, 0, 4, 0, 1]):
            self.turned((("by", 0, (3, 0, 4, 0, 1)),), (number,), (answer,))
            self.turned((("by", 1, (3, 0, 4, 0, 1)),), (2, number, 2), (answer,))
            self.turned((("by", 2, (3, 0, 4, 0, 1)),), (1, 1, number), (answer,))

    def test_several(self):
        rules = (("by", 1, (2, 3, 0)), ("is", 1), ("by", 0, (0, 2, 1)))
        self.turned(rules, (0, 0), (2, 1, 0))
        self.turned(rules, (1, 2), (0, 1, 2))
        self.turned(rules, (2, 1), (3, 1, 1))

    def test_one_box_for_all(self):
        self.turned((("by", 0, (0, 1)), ("by", 0, (1, 0)), ("by", 0, (4, 2))), (1, 0, 0), (1, 0, 2))

    def test_no_rule(self):
        for numbers in [(), (0,), (1, 2, 3)]:
            self.turned((), numbers, ())

    def test_none(self):
        self.turned((("is", None),), (0,), None)
        for at in range(3):
            rules = with_part((("is", 0), ("by", 0, (1, 1)), ("is", 1)), at, ("is", None))
            self.turned(rules, (0,), None)
            rules = with_part((("is", 0), ("by", 0, (1, 1)), ("is", 1)), at, ("by", 0, (2, None)))
            self.turned(rules, (1,), None)
            self.assertIs(type(turned(rules, (0,))), tuple)

    def test_a_none_that_the_box_does_not_hold(self):
        self.turned((("by", 1, (None, 2, None)),), (0, 1), (2,))
        self.turned((("by", 1, (None, 2, None)),), (1, 0), None)
        self.turned((("by", 1, (None, 2, None)),), (1, 2), None)

    def test_a_nought_is_no_none(self):
        self.turned((("is", 0), ("by", 0, (0, None))), (0,), (0, 0))

    def test_some(self):
        chance = random.Random(1)
        for _ in range(300):
            one, two = made_small(chance), made_small(chance)
            for _, _, rules in made_places(chance, one, two, 60, 20):
                for numbers in all_numbers(one):
                    self.turned(rules, numbers, turned_by_hand(rules, numbers))


class Joined(unittest.TestCase):
    def joined(self, places, later, answer):
        before = kept((places, later))
        got = joined(places, later)
        self.assertEqual(got, answer)
        self.assertIs(type(got), list)
        self.assertEqual((places, later), before)
        self.assertEqual(joined(places, later), answer)

    def rule(self, former, later, answer):
        """The later rule, of a box 1 that the former rule is of."""
        places = [(2, 5, (("is", 4), former, ("by", 2, (4, 4, 4))))]
        self.joined(places, [(5, 7, (later,))], [(2, 7, (answer,))])

    def test_a_later_is_stays(self):
        for former in [("is", 0), ("is", None), ("by", 0, (0, 1, None))]:
            for number in [0, 3, None]:
                self.rule(former, ("is", number), ("is", number))

    def test_a_former_is_and_a_later_by(self):
        for number, answer in enumerate([3, 0, None, 1]):
            self.rule(("is", number), ("by", 1, (3, 0, None, 1)), ("is", answer))
        self.rule(("is", None), ("by", 1, (3, 0, None, 1)), ("is", None))

    def test_a_former_by_and_a_later_by(self):
        later = ("by", 1, (3, 0, None, 1))
        self.rule(("by", 0, (0, 1, 3)), later, ("by", 0, (3, 0, 1)))
        self.rule(("by", 2, (3, 3, 0)), later, ("by", 2, (1, 1, 3)))
        self.rule(("by", 0, (2, None, 1)), later, ("by", 0, (None, None, 0)))
        self.rule(("by", 1, (None, None, None)), later, ("by", 1, (None, None, None)))

    def test_nought_is_no_none(self):
        self.rule(("is", 0), ("by", 1, (0, 1)), ("is", 0))
        self.rule(("by", 0, (0, 0)), ("by", 1, (0, 1)), ("by", 0, (0, 0)))

    def test_several_boxes(self):
        places = [(0, 1, (("by", 1, (1, 0)), ("is", 2)))]
        later = [(1, 3, (("by", 1, (0, 0, 4)), ("by", 0, (2, None, 1)), ("is", 1)))]
        self.joined(places, later, [(0, 3, (("is", 4), ("by", 1, (None, 2)), ("is", 1)))])

    def test_none(self):
        self.joined([], [], [])
        self.joined(good_places(), [], [])
        self.joined([], good_places(), [])

    def test_without_boxes(self):
        self.joined([(0, 1, ())], [(1, 2, ())], [(0, 2, ())])
        self.joined([(0, 1, (("is", None),))], [(1, 2, ())], [(0, 2, ())])
        self.joined([(0, 1, ())], [(1, 2, (("is", 3),))], [(0, 2, (("is", 3),))])

    def test_a_former_place_whose_other_row_is_no_later_row(self):
        places = [(0, 3, ()), (1, 2, ()), (2, 0, ()), (3, 1, ())]
        self.joined(places, [(1, 7, ()), (2, 8, ())], [(1, 8, ()), (3, 7, ())])
        self.joined(places, [(4, 7, ()), (5, 8, ())], [])
        # The later other row, and the former row, are no rows that the later ones are looked up by.
        self.joined([(4, 0, ())], [(1, 0, ()), (4, 2, ())], [])

    def test_in_the_order_of_the_former(self):
        places = [(3, 1, ()), (0, 2, ()), (2, 1, ()), (1, 2, ())]
        answer = [(3, 9, ()), (0, 4, ()), (2, 9, ()), (1, 4, ())]
        self.joined(places, [(2, 4, ()), (1, 9, ())], answer)
        self.joined(places, [(1, 9, ()), (2, 4, ())], answer)

    def test_they_may_turn_more(self):
        places = [(0, 0, (("is", None), ("is", 1)))]
        later = [(0, 0, (("by", 1, (1, 0)),))]
        self.joined(places, later, [(0, 0, (("is", 0),))])
        self.assertIsNone(turned(places[0][2], ()))
        self.assertEqual(turned(joined(places, later)[0][2], ()), (0,))

    def test_twenty(self):
        places = [(row, 19 - row, (("by", 2, (4, 3, 2, 1, 0)),) * 3) for row in range(20)]
        turn = (("by", 0, (1, 2, 3, 4, 0)), ("by", 1, (0, None, 0, 1, 1)), ("by", 2, (4, 4, 4, 4, 4)))
        both = (("by", 2, (0, 4, 3, 2, 1)), ("by", 2, (1, 1, 0, None, 0)), ("by", 2, (4, 4, 4, 4, 4)))
        self.joined(places, [(row, row, turn) for row in range(20)], [(row, 19 - row, both) for row in range(20)])

    def test_what_is_told_is_the_askers_own(self):
        places, later = [(0, 1, (("is", 1),))], [(1, 2, (("by", 0, (0, 3)),))]
        got = joined(places, later)
        places.clear()
        later.clear()
        self.assertEqual(got, [(0, 2, (("is", 3),))])
        places, later = [(0, 1, ())], [(1, 0, ())]
        joined(places, later).clear()
        self.joined(places, later, [(0, 0, ())])

    def test_one_behind_the_other_turns_alike(self):
        chance = random.Random(2)
        for _ in range(400):
            one, two, three = made_small(chance), made_small(chance), made_small(chance)
            places, later = made_places(chance, one, two, 70, 15), made_places(chance, two, three, 70, 15)
            both = need_places(one, three, joined(places, later))
            behind = {place[0]: place for place in later}
            led = [(row, other, rules, behind[other]) for row, other, rules in places if other in behind]
            self.assertEqual([place[:2] for place in both], [(row, last[1]) for row, _, _, last in led])
            for (_, _, former, last), (_, _, rules) in zip(led, both, strict=True):
                for numbers in all_numbers(one):
                    between = turned(former, numbers)
                    if between is not None:
                        self.assertEqual(turned(rules, numbers), turned(last[2], between))


if __name__ == "__main__":
    unittest.main()
