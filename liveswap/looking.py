"""What a change meets, and whether it is safe."""

from liveswap.places import by_row, need_places, turned
from liveswap.programs import need_program, need_state, stepped


def begins(program):
    """A list of all begins of the program, rising."""
    boxes, most, _ = need_program(program)
    found = [()]
    for _ in range(boxes):
        found = [numbers + (number,) for numbers in found for number in range(most + 1)]
    return found


def is_stuck(there, state):
    """True if the state's row is that of one of the places there, and nothing is turned."""
    row, numbers = state
    return row in there and turned(there[row][2], numbers) is None


def met(one, places, state):
    """What a change by these places meets that is asked for at the state."""
    need_state(one, state)
    there = by_row(places)
    behind = {}
    now = state
    while now is not None and now not in behind:
        if now[0] in there:
            return ("stuck" if is_stuck(there, now) else "comes", len(behind))
        behind[now] = len(behind)
        now, _ = stepped(one, now)
    if now is None:
        return ("over", len(behind))
    return ("missed", behind[now], len(behind) - behind[now])


def unsafe_run(one, there, begin, fine):
    """The run from this begin that meets "stuck" or "missed", or None, and then its states are fine."""
    behind = {}
    now = (0, begin)
    while now is not None and now not in fine and now not in behind:
        if is_stuck(there, now):
            return ("stuck", begin, len(behind))
        behind[now] = len(behind)
        now, _ = stepped(one, now)
    if now in behind:
        # The run goes round for ever from here on. A change that is asked for earlier
        # is missed only if one that is asked for where the round begins is missed too.
        many = behind[now]
        if not any([state[0] in there for state in list(behind)[many:]]):
            return ("missed", begin, many)
    for state in behind:
        fine[state] = True
    return None


def looked(one, two, places):
    """("safe",), or a run that is told of a change that is not safe."""
    there = by_row(need_places(one, two, places))
    # Runs from other begins may come to the same states, and need not be followed from there again.
    fine = {}
    for begin in begins(one):
        run = unsafe_run(one, there, begin, fine)
        if run is not None:
            return run
    return ("safe",)
