"""Days that are read line by line.

Each function here that takes a line gets its words but the first one, and puts what it reads into the draft;
BadText(0) tells that the line has not its form, or may not stand there.
"""
from risingday.counters import Counter
from risingday.days import Day
from risingday.errors import BadPart, DayError
from risingday.hours import Hours
from risingday.meetings import Meeting
from risingday.people import Person
from risingday.places import Ways
from risingday.rising import Rising
from risingday.rooms import Room
from risingday.words import key_read, keys_read, name_read, need_form, number_read, pair_read, rows_read, spans_read

# What may stand behind what: a line of its own does not stand behind one of a later kind.
RANKS = {"person": 0, "way": 1, "counter": 2, "meeting": 3, "room": 4}


class Draft:
    """What has been read of a day so far, each thing as a list of what it is made of."""

    def __init__(self):
        self.people = []
        self.legs = {}
        self.counters = []
        self.meetings = []
        self.rooms = []
        self.ahead = None
        self.rank = 0


def take_person(draft, words):
    """A person, without errands as yet."""
    need_form(len(words) == 3)
    draft.people.append((name_read(words[0]), name_read(words[1]), number_read(words[2]), []))


def errand_read(words):
    """An errand, None for a struck one."""
    if words == ["-"]:
        return None
    need_form(len(words) > 0 and words[0] in ("stay", "counter", "meet", "room"))
    need_form(len(words) == (2 if words[0] == "meet" else 3))
    errand = (words[0], name_read(words[1]))
    return errand if words[0] == "meet" else (*errand, number_read(words[2]))


def take_errand(draft, words):
    """An errand of the last person."""
    need_form(draft.ahead in ("person", "does"))
    draft.people[-1][3].append(errand_read(words))


def take_way(draft, words):
    """A way by a pair that no line ahead has."""
    pair = pair_read(words[:2])
    need_form(pair not in draft.legs)
    draft.legs[pair] = rows_read(words[2:])


def take_counter(draft, words):
    """A counter, without its order as yet."""
    need_form(len(words) >= 3)
    draft.counters.append([name_read(words[0]), name_read(words[1]), number_read(words[2]), spans_read(words[3:])])


def take_meeting(draft, words):
    """A meeting."""
    need_form(len(words) == 5)
    draft.meetings.append((name_read(words[0]), name_read(words[1]), number_read(words[2]), number_read(words[3]),
                           number_read(words[4])))


def take_room(draft, words):
    """A room, without its order and its notices as yet."""
    need_form(len(words) == 3)
    draft.rooms.append([name_read(words[0]), name_read(words[1]), number_read(words[2])])


def take_order(draft, words):
    """The order of the counter or room of the line ahead."""
    need_form(draft.ahead in ("counter", "room"))
    host = draft.counters[-1] if draft.ahead == "counter" else draft.rooms[-1]
    host.append(keys_read(words))
    if draft.ahead == "room":
        host.append({})


def take_notice(draft, words):
    """A notice of the last room, for a key that has none there yet."""
    # Behind a room stands its order: so the line ahead is one of these.
    need_form(len(draft.rooms) > 0)
    need_form(len(words) == 3)
    key = key_read(words[:2])
    notices = draft.rooms[-1][4]
    need_form(key not in notices)
    notices[key] = number_read(words[2])


LINES = {"person": take_person, "does": take_errand, "way": take_way, "counter": take_counter, "meeting": take_meeting,
         "room": take_room, "order": take_order, "notice": take_notice}


def wants_order(draft):
    """Whether nothing but an order may stand behind the last line."""
    return draft.ahead in ("counter", "room")


def take_line(draft, line):
    """Any line."""
    words = line.split(" ")
    word = words[0]
    need_form(word in LINES and (word == "order" or not wants_order(draft)))
    need_form(RANKS.get(word, draft.rank) >= draft.rank)
    take = LINES[word]
    take(draft, words[1:])
    draft.ahead = word
    draft.rank = RANKS.get(word, draft.rank)


def map_made(rows):
    """The map of a way."""
    try:
        return Rising(rows)
    except DayError:
        raise BadPart("way") from None


def counter_made(told):
    """A counter."""
    name, place, desks, spans, order = told
    return Counter(name, place, desks, Hours(spans), order)


def day_made(draft):
    """The day, its parts made in the order of their lines."""
    people = [Person(name, home, leaves, errands) for name, home, leaves, errands in draft.people]
    legs = {pair: map_made(rows) for pair, rows in draft.legs.items()}
    counters = [counter_made(told) for told in draft.counters]
    meetings = [Meeting(*told) for told in draft.meetings]
    rooms = [Room(*told) for told in draft.rooms]
    return Day(people, Ways(legs), counters, meetings, rooms)
