"""Opening hours and their gates."""
from risingday.checks import need_count, need_minute
from risingday.errors import BadIndex, BadNumber, BadPart
from risingday.kinds import LAST_MINUTE, is_between, is_listed, is_told_minute
from risingday.rising import Rising, first_above, stay


def is_span(value):
    """Whether any value is a span."""
    return (isinstance(value, tuple) and len(value) == 2 and is_told_minute(value[0])
            and is_told_minute(value[1]) and value[0] <= value[1])


def are_spans(values):
    """Whether a list has up to four spans, each one behind the one ahead."""
    if len(values) > 4 or not all([is_span(value) for value in values]):
        return False
    return all([values[index - 1][1] < values[index][0] for index in range(1, len(values))])


def is_hours(value):
    """Whether any value is None, or a list of spans."""
    return value is None or (isinstance(value, list) and are_spans(value))


def gate_of(spans, n, t):
    """The least minute from t on that has n minutes within one span, never without it."""
    if t is None or spans is None:
        return t
    for start, end in spans:
        if max(int(start), t) + n <= end:
            return max(int(start), t)
    return None


def are_within(spans, others):
    """Whether each span lies within one of the others."""
    if spans is None or others is None:
        return others is None
    return all([any([low <= start and end <= high for low, high in others]) for start, end in spans])


def gate_rows(spans, n):
    """The rows of the gate, told by spans."""
    rows = []
    minute = 0
    for start, end in spans:
        if end - start < n:
            continue
        if minute < start:
            rows.append((minute, start, False))
        rows.append((start, start, True))
        minute = end - n + 1
    return [*rows, (minute, None, False)]


def spans_longer(spans, index, more):
    """The spans, the one with this index ending later and one with those that it comes to."""
    start, end = spans[index]
    end = min(LAST_MINUTE, int(end + more))
    behind = []
    for low, high in spans[index + 1:]:
        if low <= end:
            end = max(int(end), high)
        else:
            behind.append((low, high))
    return [*spans[:index], (start, end), *behind]


class Hours:
    """Hours: always open without spans told, otherwise open within the spans."""

    def __init__(self, spans=None):
        if spans is not None and not (is_listed(spans) and are_spans(spans)):
            raise BadPart("hours")
        self._spans = None if spans is None else tuple(spans)

    def __eq__(self, other):
        return isinstance(other, Hours) and self._spans == other._spans

    def __le__(self, other):
        if not isinstance(other, Hours):
            raise TypeError("only hours can be within hours")
        return are_within(self._spans, other._spans)

    def spans(self):
        """The list of the spans, None if always open."""
        return None if self._spans is None else list(self._spans)

    def gate(self, n, t):
        """The least moment from t on at which n minutes can be had."""
        need_count(n)
        need_minute(t)
        return gate_of(self._spans, n, t)

    def is_let(self, n, t):
        """Whether n minutes can be had at t itself."""
        need_count(n)
        need_minute(t)
        return t is not None and gate_of(self._spans, n, t) == t

    def gate_map(self, n):
        """The gate of n as a map."""
        need_count(n)
        return stay() if self._spans is None else Rising(gate_rows(self._spans, n))

    def longer(self, index, more):
        """New hours: the span with this index ends so many minutes later."""
        if self._spans is None or not is_between(index, 0, len(self._spans) - 1):
            raise BadIndex(index)
        if not is_told_minute(more):
            raise BadNumber(more)
        return Hours(spans_longer(self._spans, index, more))


def witness(one, other):
    """The least (n, t) for which one has the earlier gate; None if one is within other."""
    if not isinstance(one, Hours) or not isinstance(other, Hours):
        raise BadPart("hours")
    # A minute of one outside the spans of other shows it with n 0; two minutes
    # side by side in one, with an end of a span of other between them, with n 1.
    for n in (0, 1):
        t = first_above(other.gate_map(n), one.gate_map(n))
        if t is not None:
            return (n, t)
    return None
