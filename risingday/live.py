"""Live days: a day that is led by tidings, with a clock and with promises, step by step."""
from risingday.below import slim_below
from risingday.errors import BadKey, BadNumber, Fixed, NothingToUndo, NotSo, Promised
from risingday.keys import is_moment_key, need_moment_key
from risingday.kinds import is_between
from risingday.moments import moments
from risingday.needs import need_unbarred
from risingday.never import is_less
from risingday.tidings import late_between, need_behind

LAST_CLOCK = 1000000


class State:
    """How a live day stands at one time; it never changes.

    The promises are pairs (key, minute), the told tidings pairs (clock, tiding).
    """

    def __init__(self, day, minute, promised, told):
        self.day = day
        self.minute = minute
        self.promised = promised
        self.told = told


class Trial:
    """What puts a live day back behind a `with` block."""

    def __init__(self, live):
        self._live = live
        self._past = ()
        self._state = None
        self._undone = ()

    def __enter__(self):
        self._past = self._live._past
        self._state = self._live._state
        self._undone = self._live._undone
        return self._live

    def __exit__(self, kind, value, trace):
        self._live._past = self._past
        self._live._state = self._state
        self._live._undone = self._undone


def is_kept(numbers, promise):
    """Whether a promise is kept, by the moments of a day."""
    key, minute = promise
    return not is_less(minute, numbers[key])


class Live:
    """A live day."""

    def __init__(self, day):
        need_unbarred(day)
        self._past = ()
        self._state = State(day, 0, (), ())
        self._undone = ()

    def __eq__(self, other):
        return (isinstance(other, Live) and self._state.day == other._state.day
                and self._state.minute == other._state.minute and self._state.promised == other._state.promised)

    def _step(self, state):
        """One step, to another state."""
        self._past = (*self._past, self._state)
        self._state = state
        self._undone = ()

    def _need_promise(self, key):
        """The promise with this key."""
        if is_moment_key(self._state.day, key):
            for promise in self._state.promised:
                if promise[0] == key:
                    return promise
        raise BadKey(key)

    def now(self):
        """The day as it is now."""
        return self._state.day

    def clock(self):
        """The clock."""
        return self._state.minute

    def promises(self):
        """The list of the promises, in the order in which they were made."""
        return list(self._state.promised)

    def moment(self, key):
        """A moment of the day as it is now."""
        need_moment_key(self._state.day, key)
        return moments(self._state.day)[key]

    def happened(self):
        """The list of the moments below the clock, in order."""
        return [key for key, minute in moments(self._state.day).items() if is_less(minute, self._state.minute)]

    def coming(self):
        """The least minute from the clock on at which moments are, and the list of these; None without any."""
        numbers = moments(self._state.day)
        minutes = [int(minute) for minute in numbers.values()
                   if minute is not None and minute >= self._state.minute]
        if not minutes:
            return None
        least = min([int(minute) for minute in minutes])
        return (least, [key for key, minute in numbers.items() if minute == least])

    def _state_behind(self, tiding):
        """The state behind a tiding, and the list of the promises that it breaks."""
        state = self._state
        day = need_behind(state.day, tiding, 0)
        late = late_between(state.day, day, state.minute)
        if late:
            raise Fixed(late[0])
        numbers = moments(state.day)
        others = moments(day)
        promised = tuple([promise for promise in state.promised if promise[0] in others])
        broken = [promise for promise in promised if is_kept(numbers, promise) and not is_kept(others, promise)]
        return (State(day, state.minute, promised, (*state.told, (state.minute, tiding))), broken)

    def tell(self, tiding):
        """Tells a tiding; the list of the promises that it breaks."""
        state, broken = self._state_behind(tiding)
        self._step(state)
        return broken

    def would_break(self, tiding):
        """The list of the promises that a tiding would break; it is not told."""
        return self._state_behind(tiding)[1]

    def wait(self, minute):
        """Moves the clock to a minute."""
        state = self._state
        if not is_between(minute, state.minute, LAST_CLOCK):
            raise BadNumber(minute)
        self._step(State(state.day, minute, state.promised, state.told))

    def promise(self, key, minute):
        """Promises that a moment is at most a minute."""
        state = self._state
        need_moment_key(state.day, key)
        if not is_between(minute, 0, LAST_CLOCK):
            raise BadNumber(minute)
        if any([promise[0] == key for promise in state.promised]):
            raise Promised(key)
        if not is_kept(moments(state.day), (key, minute)):
            raise NotSo("kept")
        self._step(State(state.day, state.minute, (*state.promised, (key, minute)), state.told))

    def withdraw(self, key):
        """Withdraws the promise with a key."""
        state = self._state
        own = self._need_promise(key)
        promised = tuple([promise for promise in state.promised if promise != own])
        self._step(State(state.day, state.minute, promised, state.told))

    def broken(self):
        """The list of the promises that are not kept, in order."""
        numbers = moments(self._state.day)
        return [promise for promise in self._state.promised if not is_kept(numbers, promise)]

    def breaking_paper(self, key):
        """The table that shows that a promise is broken, None if it is kept."""
        promise = self._need_promise(key)
        day = self._state.day
        return None if is_kept(moments(day), promise) else slim_below(day, key)

    def undo(self):
        """Takes back the last step."""
        if not self._past:
            raise NothingToUndo("step")
        self._undone = (*self._undone, self._state)
        self._state = self._past[-1]
        self._past = self._past[:-1]

    def redo(self):
        """Does the step again that was taken back last."""
        if not self._undone:
            raise NothingToUndo("undone")
        self._past = (*self._past, self._state)
        self._state = self._undone[-1]
        self._undone = self._undone[:-1]

    def steps(self):
        """How many steps can be taken back."""
        return len(self._past)

    def tidings(self):
        """The list of the (clock, tiding) that stand, in the order in which they were told."""
        return list(self._state.told)

    def attempt(self, deed):
        """What a deed returns for this live day, which is as ahead of it behind it."""
        past = self._past
        state = self._state
        undone = self._undone
        try:
            return deed(self)
        finally:
            self._past = past
            self._state = state
            self._undone = undone

    def trial(self):
        """An object for one `with` block, which gives this live day; it is as ahead of the block behind it."""
        return Trial(self)

    def twin(self):
        """A new live day with the same steps, which goes on by itself."""
        other = Live(self._state.day)
        other._past = self._past
        other._state = self._state
        other._undone = self._undone
        return other
