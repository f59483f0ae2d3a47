"""Programs, their states, their steps and their runs."""

from liveswap.errors import BadCount, BadProgram, BadState

MOST_BOXES = 3
HIGHEST_MOST = 4
MOST_ROWS = 20

# For each kind of row, what the parts behind its kind are.
PARTS = {
    "put": ("box", "number"),
    "more": ("box",),
    "copy": ("box", "box"),
    "tell": ("box",),
    "go": ("row",),
    "ask": ("box", "row"),
    "stop": (),
}


def whole(thing, low, high):
    """True if the thing is a whole number from low to high."""
    # The exact class is asked for, here and in all that follows: isinstance would let
    # True and False pass, and objects that compare or measure themselves in their own way.
    return type(thing) is int and low <= thing <= high


def is_row(thing, boxes, most, many):
    """True if the thing is a row of a program of so many boxes, such a most, and many rows."""
    if type(thing) is not tuple or len(thing) == 0:
        return False
    kind = thing[0]
    if type(kind) is not str or kind not in PARTS:
        return False
    parts = PARTS[kind]
    if len(thing) != 1 + len(parts):
        return False
    highest = {"box": boxes - 1, "number": most, "row": many - 1}
    return all([whole(thing[1 + at], 0, highest[part]) for at, part in enumerate(parts)])


def is_program(thing):
    """True if the thing is a program."""
    if type(thing) is not tuple or len(thing) != 3:
        return False
    boxes, most, rows = thing
    if not whole(boxes, 0, MOST_BOXES) or not whole(most, 1, HIGHEST_MOST):
        return False
    if type(rows) is not list or not 1 <= len(rows) <= MOST_ROWS:
        return False
    if not all([is_row(row, boxes, most, len(rows)) for row in rows]):
        return False
    return rows[-1][0] in ("go", "stop")


def is_numbers(program, thing):
    """True if the thing is a tuple of numbers, one for each box of the program."""
    boxes, most, _ = program
    if type(thing) is not tuple or len(thing) != boxes:
        return False
    return all([whole(number, 0, most) for number in thing])


def is_state(program, thing):
    """True if the thing is a state of the program."""
    if type(thing) is not tuple or len(thing) != 2:
        return False
    row, numbers = thing
    return whole(row, 0, len(program[2]) - 1) and is_numbers(program, numbers)


def need_program(thing):
    """The thing, if it is a program."""
    if not is_program(thing):
        raise BadProgram("this is no program")
    return thing


def need_state(program, thing):
    """The thing, if it is a state of the program."""
    need_program(program)
    if not is_state(program, thing):
        raise BadState("this is no state of the program")
    return thing


def written(most, row, numbers):
    """The number that a put, a more or a copy writes into its box."""
    if row[0] == "put":
        return row[2]
    if row[0] == "copy":
        return numbers[row[2]]
    number = numbers[row[1]]
    return 0 if number == most else number + 1


def replaced(numbers, box, number):
    """The numbers, but with this number in the box."""
    return numbers[:box] + (number,) + numbers[box + 1:]


def stepped(program, state):
    """As step, but of what is known to be a program and a state of it."""
    _, most, rows = program
    at, numbers = state
    row = rows[at]
    kind = row[0]
    if kind == "stop":
        return None, None
    if kind == "go":
        return (row[1], numbers), None
    if kind == "ask":
        return (row[2] if numbers[row[1]] == 0 else at + 1, numbers), None
    if kind == "tell":
        return (at + 1, numbers), numbers[row[1]]
    return (at + 1, replaced(numbers, row[1], written(most, row, numbers))), None


def step(program, state):
    """A pair: the next state or None, and the told number or None."""
    need_state(program, state)
    return stepped(program, state)


def ran(program, state, most):
    """A pair: a list of all that is told within most steps, and the state then, None if it is over."""
    need_state(program, state)
    if type(most) is not int or most < 0:
        raise BadCount("this is no whole number from nought on")
    told = []
    now = state
    for _ in range(most):
        if now is None:
            break
        now, number = stepped(program, now)
        if number is not None:
            told.append(number)
    return told, now
