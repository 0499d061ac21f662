"""The console: a live day that is led by lines."""
from risingday.errors import BadPart, BadText
from risingday.live import Live
from risingday.texts import read_day, read_key, read_tiding, write_day, write_key
from risingday.words import is_figure

MOST_DIGITS = 9


def need_line(holds):
    """A line that has its form."""
    if not holds:
        raise BadPart("line")


def count_read(word):
    """A count of one to nine figures."""
    need_line(is_figure(word, MOST_DIGITS))
    return int(word)


def key_told(text):
    """The key of a moment."""
    need_line(text.count(" ") == 2)
    try:
        return read_key(text)
    except BadText:
        raise BadPart("line") from None


def listed(answers):
    """Several answers in one, or none."""
    return ", ".join(answers) if answers else "none"


def promises_listed(promises):
    """The answer that tells promises."""
    return listed([f"{write_key(key)} {minute}" for key, minute in promises])


def keys_listed(keys):
    """The answer that tells keys."""
    return listed([write_key(key) for key in keys])


def show_day(live):
    """The text of the day."""
    return write_day(live.now()).replace("\n", " / ")


def show_clock(live):
    """The clock."""
    return str(live.clock())


def take_back(live):
    """Takes back the last step."""
    live.undo()
    return "ok"


def do_again(live):
    """Does the step again that was taken back last."""
    live.redo()
    return "ok"


def show_happened(live):
    """The moments below the clock."""
    return keys_listed(live.happened())


def show_coming(live):
    """The least minute from the clock on at which moments are, and these."""
    found = live.coming()
    return "none" if found is None else f"{found[0]}: {keys_listed(found[1])}"


def show_broken(live):
    """The promises that are not kept."""
    return promises_listed(live.broken())


def show_promises(live):
    """All promises."""
    return promises_listed(live.promises())


def show_steps(live):
    """How many steps can be taken back."""
    return str(live.steps())


def go_on(live, rest):
    """Moves the clock."""
    live.wait(count_read(rest))
    return "ok"


def make_promise(live, rest):
    """Makes a promise."""
    key, _, minute = rest.rpartition(" ")
    live.promise(key_told(key), count_read(minute))
    return "ok"


def take_promise_back(live, rest):
    """Withdraws a promise."""
    live.withdraw(key_told(rest))
    return "ok"


def tell_tiding(live, rest):
    """Tells a tiding."""
    return promises_listed(live.tell(read_tiding(rest)))


def try_tiding(live, rest):
    """Tells what a tiding would break."""
    return promises_listed(live.would_break(read_tiding(rest)))


def show_moment(live, rest):
    """A moment of the day."""
    minute = live.moment(key_told(rest))
    return "never" if minute is None else str(minute)


ALONE = {"show": show_day, "clock": show_clock, "undo": take_back, "redo": do_again, "happened": show_happened,
         "coming": show_coming, "broken": show_broken, "promises": show_promises, "steps": show_steps}
BEHIND = {"wait": go_on, "promise": make_promise, "withdraw": take_promise_back, "tell": tell_tiding,
          "try": try_tiding, "moment": show_moment}


class Console:
    """A console, at first without a live day."""

    def __init__(self):
        self._live = None

    def run(self, line):
        """The answer to a line."""
        need_line(isinstance(line, str))
        word, blank, rest = line.partition(" ")
        if word == "load" and blank:
            self._live = Live(read_day(rest.replace(" / ", "\n")))
            return "ok"
        need_line(self._live is not None)
        if word in BEHIND and blank:
            act = BEHIND[word]
            return act(self._live, rest)
        need_line(line in ALONE)
        answer = ALONE[word]
        return answer(self._live)
