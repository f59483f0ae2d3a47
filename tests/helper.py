"""What several test files share."""

import copy
import itertools

from liveswap.programs import step


class Bristly:
    """Answers whatever it is asked with an error that is no refusal."""

    def _bristle(self, *told):
        raise RuntimeError("touched")

    __eq__ = __ne__ = __lt__ = __le__ = __gt__ = __ge__ = _bristle
    __hash__ = __len__ = __iter__ = __getitem__ = __contains__ = _bristle
    __bool__ = __index__ = __int__ = __add__ = __radd__ = __repr__ = __str__ = _bristle
    __getattr__ = _bristle

    @property
    def __class__(self):
        raise RuntimeError("touched")


class BristlyNumber(int):
    __eq__ = __ne__ = __lt__ = __le__ = __gt__ = __ge__ = __hash__ = Bristly._bristle


class BristlyText(str):
    __eq__ = __ne__ = __hash__ = __len__ = Bristly._bristle


class BristlyTuple(tuple):
    __eq__ = __len__ = __iter__ = __getitem__ = Bristly._bristle


class BristlyList(list):
    __eq__ = __len__ = __iter__ = __getitem__ = Bristly._bristle


def in_itself():
    rows = []
    rows.append(rows)
    return rows


# None of these is a whole number, a program, a row, a state, or a tuple of numbers of one box at least.
ODD = [
    None, True, False, "", "0", "stop", b"", b"0", 0.0, 1.0, 0j, float("nan"), float("inf"),
    [], [0], (), {}, {0: 0}, set(), {0}, frozenset(), range(1), object(), int, len, Ellipsis,
    NotImplemented, ValueError("0"), iter(()), in_itself(), ((((),),),),
    Bristly(), BristlyNumber(0), BristlyText("stop"), BristlyTuple((0,)), BristlyList([0]),
]
NO_TUPLES = [thing for thing in ODD if type(thing) is not tuple]


def outside(low, high):
    """What is no whole number from low to high."""
    return ODD + [low - 1, high + 1, -(10 ** 30), 10 ** 30, 10 ** 5000]


def with_part(row, at, part):
    """The tuple, but with another part there."""
    return row[:at] + (part,) + row[at + 1:]


def kept(thing):
    """A copy of all of the thing, to compare it with later."""
    return copy.deepcopy(thing)


def check_refused(case, error, call, *told):
    """Fails unless the call is refused with just this class of error."""
    try:
        answer = call(*told)
    except Exception as why:
        case.assertIs(type(why), error)
    else:
        case.fail(f"not refused, but answered {type(answer).__name__}")


def all_numbers(program):
    boxes, most, _ = program
    return list(itertools.product(range(most + 1), repeat=boxes))


def all_states(program):
    return list(itertools.product(range(len(program[2])), all_numbers(program)))


def run_from(program, state):
    """All states of the run from that state, each once, in order."""
    states = []
    while state is not None and state not in states:
        states.append(state)
        state, _ = step(program, state)
    return states


def turned_by_hand(rules, numbers):
    """What turned is to tell."""
    found = ()
    for kind, *parts in rules:
        found += (parts[0] if kind == "is" else parts[1][numbers[parts[0]]],)
    return None if None in found else found


def met_by_steps(one, places, state):
    """What met is to tell, worked out by step."""
    behind = [state]
    while True:
        for row, _, rules in places:
            if row == behind[-1][0]:
                comes = turned_by_hand(rules, behind[-1][1]) is not None
                return ("comes" if comes else "stuck", len(behind) - 1)
        state, _ = step(one, behind[-1])
        if state is None:
            return ("over", len(behind))
        if state in behind:
            return ("missed", behind.index(state), len(behind) - behind.index(state))
        behind.append(state)


def made_row(chance, boxes, most, many, kinds):
    box, other = chance.randrange(max(boxes, 1)), chance.randrange(max(boxes, 1))
    row = chance.randrange(many)
    return chance.choice([made for made in [
        ("put", box, chance.randrange(most + 1)), ("more", box), ("more", box), ("copy", box, other),
        ("tell", box), ("go", row), ("ask", box, row), ("stop",),
    ] if made[0] in kinds])


def made_program(chance, boxes, most, many):
    """Some program of so many boxes, such a most and so many rows."""
    kinds = ["put", "more", "copy", "tell", "go", "ask", "stop"] if boxes else ["go", "stop"]
    rows = [made_row(chance, boxes, most, many, kinds) for _ in range(many - 1)]
    return (boxes, most, rows + [made_row(chance, boxes, most, many, ["go", "stop"])])


def made_small(chance):
    """Some program of few states."""
    return made_program(chance, chance.randint(0, 2), chance.randint(1, 2), chance.randint(1, 7))


def made_rule(chance, one, two, nones):
    """Some rule; of nones parts in a hundred its numbers are None."""
    worths = [None if chance.randrange(100) < nones else chance.randint(0, two[1]) for _ in range(one[1] + 1)]
    if one[0] == 0 or chance.randrange(3) == 0:
        return ("is", worths[0])
    return ("by", chance.randrange(one[0]), tuple(worths))


def made_places(chance, one, two, share, nones):
    """Some places, at a share in a hundred of the rows of the first program, in any order."""
    rows = [row for row in range(len(one[2])) if chance.randrange(100) < share]
    chance.shuffle(rows)
    return [(row, chance.randrange(len(two[2])), tuple(made_rule(chance, one, two, nones) for _ in range(two[0])))
            for row in rows]
