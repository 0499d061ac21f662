"""Days, keys and tidings as texts."""
from risingday.counters import is_key
from risingday.days import need_day
from risingday.drafts import Draft, day_made, take_line, wants_order
from risingday.errors import BadKey, BadText, BadTiding, DayError
from risingday.hours import Hours
from risingday.keys import WORDS
from risingday.kinds import is_between, is_name
from risingday.rising import Rising
from risingday.words import (GREATEST, hours_words, key_read, key_words, moment_key_read, name_read, need_form,
                             number_read, order_words, pair_read, rows_read, rows_words, spans_read)

# The parts of each tiding behind its word: how many words each of them has, if it does not take all that are left.
TIDINGS = {"leaves": ("name", "number"), "n": ("key", "number"), "opens": ("name", "number"),
           "length": ("name", "number"), "quorum": ("name", "number"), "desks": ("name", "number"),
           "hours": ("name", "hours"), "turn": ("name", "number"), "notice": ("key", "number"), "way": ("pair", "map"),
           "struck": ("key",), "exchange": ("name", "number")}
SIZES = {"name": 1, "number": 1, "key": 2, "pair": 2}


def errand_line(errand):
    """The line of an errand."""
    return "does -" if errand is None else " ".join(["does", *[str(part) for part in errand]])


def person_lines(person):
    """The lines of a person."""
    head = f"person {person.name} {person.home} {person.leaves}"
    return [head, *[errand_line(errand) for errand in person.errands]]


def way_line(ways, pair):
    """The line of a way."""
    return " ".join(["way", pair[0], pair[1], *rows_words(ways.leg(pair[0], pair[1]))])


def counter_lines(counter):
    """The lines of a counter."""
    head = ["counter", counter.name, counter.place, str(counter.desks), *hours_words(counter.hours)]
    return [" ".join(head), " ".join(order_words(counter.order))]


def meeting_line(meeting):
    """The line of a meeting."""
    return f"meeting {meeting.name} {meeting.place} {meeting.opens} {meeting.length} {meeting.quorum}"


def room_lines(room):
    """The lines of a room."""
    notices = [" ".join(["notice", *key_words(key), str(notice)]) for key, notice in room.noticed().items()]
    return [f"room {room.name} {room.place} {room.turn}", " ".join(order_words(room.order)), *notices]


def write_day(day):
    """The text of a day."""
    need_day(day)
    lines = [line for person in day.persons() for line in person_lines(person)]
    lines.extend([way_line(day.all_ways(), pair) for pair in day.all_ways().pairs()])
    lines.extend([line for counter in day.all_counters() for line in counter_lines(counter)])
    lines.extend([meeting_line(meeting) for meeting in day.all_meetings()])
    lines.extend([line for room in day.all_rooms() for line in room_lines(room)])
    return "\n".join(lines)


def need_text(text):
    """A string."""
    if not isinstance(text, str):
        raise BadText(0)


def read_day(text):
    """The day of a text."""
    need_text(text)
    lines = text.split("\n") if text else []
    draft = Draft()
    for index, line in enumerate(lines):
        try:
            take_line(draft, line)
        except BadText:
            raise BadText(index) from None
    if wants_order(draft):
        raise BadText(len(lines))
    return day_made(draft)


def has_key_form(value):
    """Whether any value has the form of the key of an errand or of a moment."""
    if is_key(value):
        return True
    return isinstance(value, tuple) and len(value) == 3 and is_key(value[:2]) and value[2] in WORDS


def write_key(key):
    """The text of the key of an errand or of a moment."""
    if not has_key_form(key):
        raise BadKey(key)
    return " ".join(key_words(key))


def read_key(text):
    """The key of a text, of an errand or of a moment."""
    need_text(text)
    words = text.split(" ")
    return moment_key_read(words) if len(words) == 3 else key_read(words)


def is_pair_of_names(value):
    """Whether any value is a tuple of two names."""
    return isinstance(value, tuple) and len(value) == 2 and is_name(value[0]) and is_name(value[1])


def words_of(kind, value):
    """The words of any value as a part of a tiding of this kind, None if it is none."""
    if kind == "name":
        return [value] if is_name(value) else None
    if kind == "number":
        return [str(value)] if is_between(value, 0, GREATEST) else None
    if kind == "key":
        return key_words(value) if is_key(value) else None
    if kind == "pair":
        return list(value) if is_pair_of_names(value) else None
    if kind == "map":
        return rows_words(value) if isinstance(value, Rising) else None
    return hours_words(value) if isinstance(value, Hours) else None


def write_tiding(tiding):
    """The text of a tiding."""
    if not isinstance(tiding, tuple) or len(tiding) == 0 or not isinstance(tiding[0], str):
        raise BadTiding(0)
    kinds = TIDINGS.get(tiding[0])
    if kinds is None or len(tiding) != len(kinds) + 1:
        raise BadTiding(0)
    words = [tiding[0]]
    for kind, part in zip(kinds, tiding[1:]):
        told = words_of(kind, part)
        if told is None:
            raise BadTiding(0)
        words.extend(told)
    return " ".join(words)


def part_read(kind, words):
    """The part of a tiding of this kind."""
    if kind == "name":
        return name_read(words[0])
    if kind == "number":
        return number_read(words[0])
    if kind == "key":
        return key_read(words)
    if kind == "pair":
        return pair_read(words)
    return Rising(rows_read(words)) if kind == "map" else Hours(spans_read(words))


def parts_read(kinds, words):
    """The list of the parts of a tiding."""
    parts = []
    left = list(words)
    for kind in kinds:
        size = SIZES.get(kind, len(left))
        need_form(len(left) >= size)
        parts.append(part_read(kind, left[:size]))
        left = left[size:]
    need_form(not left)
    return parts


def read_tiding(text):
    """The tiding of a text."""
    need_text(text)
    words = text.split(" ")
    need_form(words[0] in TIDINGS)
    try:
        return (words[0], *parts_read(TIDINGS[words[0]], words[1:]))
    except DayError:
        raise BadText(0) from None
