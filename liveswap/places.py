"""The places of a change: what they are, how their rules turn numbers, and how they are joined."""

from liveswap.errors import BadPlaces
from liveswap.programs import need_program, whole

MOST_PLACES = 20


def is_worth(two, thing):
    """True if the thing is a number of the second program, or None."""
    return thing is None or whole(thing, 0, two[1])


def is_rule(one, two, thing):
    """True if the thing is a rule of a change from the one program to the other."""
    if type(thing) is not tuple or len(thing) == 0 or type(thing[0]) is not str:
        return False
    if thing[0] == "is":
        return len(thing) == 2 and is_worth(two, thing[1])
    if thing[0] != "by" or len(thing) != 3:
        return False
    boxes, most, _ = one
    _, box, numbers = thing
    if not whole(box, 0, boxes - 1) or type(numbers) is not tuple or len(numbers) != most + 1:
        return False
    return all([is_worth(two, number) for number in numbers])


def is_place(one, two, thing):
    """True if the thing is a place of a change from the one program to the other."""
    if type(thing) is not tuple or len(thing) != 3:
        return False
    row, other, rules = thing
    if not whole(row, 0, len(one[2]) - 1) or not whole(other, 0, len(two[2]) - 1):
        return False
    if type(rules) is not tuple or len(rules) != two[0]:
        return False
    return all([is_rule(one, two, rule) for rule in rules])


def is_places(one, two, thing):
    """True if the thing is a list of places of a change from the one program to the other."""
    if type(thing) is not list or len(thing) > MOST_PLACES:
        return False
    if not all([is_place(one, two, place) for place in thing]):
        return False
    return len({place[0] for place in thing}) == len(thing)


def need_places(one, two, places):
    """A new list of the places, if they are places of a change from the one program to the other."""
    need_program(one)
    need_program(two)
    if not is_places(one, two, places):
        raise BadPlaces("these are no places of a change from the one program to the other")
    return list(places)


def by_row(places):
    """A dict of the places, by their rows of the first program."""
    return {place[0]: place for place in places}


def worth(rule, numbers):
    """What the rule gives its box where the first program holds these numbers: a number or None."""
    if rule[0] == "is":
        return rule[1]
    _, box, worths = rule
    return worths[numbers[box]]


def turned(rules, numbers):
    """The numbers of the second program, or None where one of the rules gives None."""
    found = [worth(rule, numbers) for rule in rules]
    if None in found:
        return None
    return tuple(found)


def carried(worths, number):
    """What stands among the worths for a number, and None for None."""
    return None if number is None else worths[number]


def joined_rule(rules, rule):
    """A rule that does at once what the former rules and then the later rule do."""
    if rule[0] == "is":
        return rule
    _, box, worths = rule
    former = rules[box]
    if former[0] == "is":
        return ("is", carried(worths, former[1]))
    _, first, numbers = former
    return ("by", first, tuple([carried(worths, number) for number in numbers]))


def joined(places, later):
    """A list of the places that lead at once where the former and then the later ones lead."""
    behind = by_row(later)
    found = []
    for row, other, rules in places:
        if other in behind:
            _, third, last = behind[other]
            found.append((row, third, tuple([joined_rule(rules, rule) for rule in last])))
    return found
