"""What several test files share."""

import copy


class Bristly:
    """Answers whatever it is asked with an error that is no refusal."""

    def _bristle(self, *told):
        raise RuntimeError("touched")

    __eq__ = __ne__ = __lt__ = __le__ = __gt__ = __ge__ = _bristle
    __hash__ = __len__ = __iter__ = __getitem__ = __contains__ = _bristle
    __bool__ = __index__ = __int__ = __add__ = __radd__ = __repr__ = __str__ = _bristle
    __getattr__ = _bristle

    @property
    def __class__(self):
        raise RuntimeError("touched")


class BristlyNumber(int):
    __eq__ = __ne__ = __lt__ = __le__ = __gt__ = __ge__ = __hash__ = Bristly._bristle


class BristlyText(str):
    __eq__ = __ne__ = __hash__ = __len__ = Bristly._bristle


class BristlyTuple(tuple):
    __eq__ = __len__ = __iter__ = __getitem__ = Bristly._bristle


class BristlyList(list):
    __eq__ = __len__ = __iter__ = __getitem__ = Bristly._bristle


def in_itself():
    rows = []
    rows.append(rows)
    return rows


# None of these is a whole number, a program, a row, a state, or a tuple of numbers of one box at least.
ODD = [
    None, True, False, "", "0", "stop", b"", b"0", 0.0, 1.0, 0j, float("nan"), float("inf"),
    [], [0], (), {}, {0: 0}, set(), {0}, frozenset(), range(1), object(), int, len, Ellipsis,
    NotImplemented, ValueError("0"), iter(()), in_itself(), ((((),),),),
    Bristly(), BristlyNumber(0), BristlyText("stop"), BristlyTuple((0,)), BristlyList([0]),
]
NO_TUPLES = [thing for thing in ODD if type(thing) is not tuple]


def outside(low, high):
    """What is no whole number from low to high."""
    return ODD + [low - 1, high + 1, -(10 ** 30), 10 ** 30, 10 ** 5000]


def with_part(row, at, part):
    """The tuple, but with another part there."""
    return row[:at] + (part,) + row[at + 1:]


def kept(thing):
    """A copy of all of the thing, to compare it with later."""
    return copy.deepcopy(thing)


def check_refused(case, error, call, *told):
    """Fails unless the call is refused with just this class of error."""
    try:
        answer = call(*told)
    except Exception as why:
        case.assertIs(type(why), error)
    else:
        case.fail(f"not refused, but answered {type(answer).__name__}")
