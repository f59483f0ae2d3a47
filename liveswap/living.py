"""A live machine: a program that runs and is changed for another one while it runs."""

from liveswap.errors import BadState, Busy, Over, Unsafe
from liveswap.looking import met
from liveswap.places import by_row, need_places, turned
from liveswap.programs import is_numbers, need_program, stepped


def copied(program):
    """The program once more, with a list of rows of its own."""
    boxes, most, rows = program
    return (boxes, most, list(rows))


class Live:
    """A machine that runs a program from a begin."""

    def __init__(self, program, begin):
        need_program(program)
        if not is_numbers(program, begin):
            raise BadState("this is no begin of the program")
        self._program = copied(program)
        self._state = (0, begin)
        self._said = []
        self._changed = 0
        # The program and the places, by their rows, of the change that is waited for.
        self._second = None
        self._there = None

    def go(self):
        """Does a step, True; False where it is over."""
        if self._state is None:
            return False
        self._state, number = stepped(self._program, self._state)
        if number is not None:
            self._said.append(number)
        self._settle()
        return True

    def ask(self, two, places):
        """Asks for a change to the second program by these places."""
        if self._state is None:
            raise Over("the run is over")
        if self.waits():
            raise Busy("another change is waited for")
        asked = need_places(self._program, two, places)
        shown = met(self._program, asked, self._state)
        if shown[0] in ("stuck", "missed"):
            raise Unsafe(shown)
        self._second = copied(two)
        self._there = by_row(asked)
        self._settle()

    def _settle(self):
        """The change that is waited for comes, if it comes here; none is waited for, if the run is over."""
        if self._state is None:
            self._wait_for_none()
        elif self.waits() and self._state[0] in self._there:
            row, numbers = self._state
            _, other, rules = self._there[row]
            self._program = self._second
            self._state = (other, turned(rules, numbers))
            self._changed += 1
            self._wait_for_none()

    def _wait_for_none(self):
        self._second = None
        self._there = None

    def said(self):
        """A list of all that was told so far."""
        return list(self._said)

    def state(self):
        """The state, or None where it is over."""
        return self._state

    def program(self):
        """The program that runs."""
        return copied(self._program)

    def waits(self):
        """True if a change is waited for."""
        return self._there is not None

    def changed(self):
        """How many changes have come."""
        return self._changed
