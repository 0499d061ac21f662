"""Days for tests: made by chance, and worked out by the words of [8], [22] and [29] alone."""
import random

from risingday.counters import Counter
from risingday.days import Day
from risingday.hours import Hours
from risingday.meetings import Meeting
from risingday.people import Person
from risingday.places import Ways
from risingday.rising import Rising, nowhere, since, stay, steady, until
from risingday.rooms import Room
from risingday.slots import by_slots

WORDS = ("arrives", "begins", "ends")
NEVER = 10 ** 40


def known(minute):
    return NEVER if minute is None else minute


def told(minute):
    return None if minute >= NEVER else minute


class ByHand:
    """What is told of a day, and all that follows from it, worked out one by one."""

    def __init__(self, day, lateness=None):
        self.late = lateness or {}
        self.people = {person.name: person for person in day.persons()}
        self.ways = day.all_ways()
        self.hosts = {host.name: host for host in [*day.all_counters(), *day.all_meetings(), *day.all_rooms()]}
        self.keys = [(name, index) for name, person in self.people.items()
                     for index, errand in enumerate(person.errands) if errand is not None]
        self.moments = [(*key, word) for key in self.keys for word in WORDS]

    def errand(self, key):
        return self.people[key[0]].errands[key[1]]

    def place(self, key):
        errand = self.errand(key)
        return errand[1] if errand[0] == "stay" else self.hosts[errand[1]].place

    def ahead(self, key):
        before = [other for other in self.keys if other[0] == key[0] and other[1] < key[1]]
        return before[-1] if before else None

    def leg(self, key):
        ahead = self.ahead(key)
        start = self.people[key[0]].home if ahead is None else self.place(ahead)
        return stay() if start == self.place(key) else self.ways.leg(start, self.place(key))

    def met(self, key):
        """The keys of all that have the meeting of this key."""
        return [other for other in self.keys if self.errand(other) == self.errand(key)]

    def before(self, key):
        """The keys ahead of this one in its order."""
        order = self.hosts[self.errand(key)[1]].order
        return list(order[:order.index(key)])

    def behind(self, key):
        """The key behind this one in the order of its room, if it is a guest there; otherwise None."""
        if self.errand(key)[0] != "room":
            return None
        room = self.hosts[self.errand(key)[1]]
        rest = room.order[room.order.index(key) + 1:]
        return rest[0] if rest and key in room.noticed() else None

    def needs(self, moment):
        """[22], in order."""
        key, word = moment[:2], moment[2]
        kind = self.errand(key)[0]
        found = []
        if word == "arrives" and self.ahead(key) is not None:
            found = [(*self.ahead(key), "ends")]
        if word == "begins":
            found = [(*key, "arrives")]
            if kind == "counter" and self.before(key):
                found.append((*self.before(key)[-1], "begins"))
                if len(self.before(key)) >= self.hosts[self.errand(key)[1]].desks:
                    found += [(*other, "ends") for other in self.before(key)]
            if kind == "meet":
                found = [(*other, "arrives") for other in self.met(key)]
            if kind == "room" and self.before(key):
                found.append((*self.before(key)[-1], "ends"))
        if word == "ends":
            found = [(*key, "begins")]
            if kind == "meet":
                found.append((*key, "arrives"))
            if self.behind(key) is not None:
                found.append((*self.behind(key), "arrives"))
        return sorted(set(found), key=self.moments.index)

    def more(self, *thing):
        return self.late.get(thing, 0)

    def n(self, key):
        return self.errand(key)[2] + self.more("n", key)

    def gate(self, spans, n, t):
        if t >= NEVER or spans is None:
            return t
        return min([max(t, start) for start, end in spans if max(t, start) + n <= end], default=NEVER)

    def arrives(self, key, at):
        if self.ahead(key) is None:
            start = self.people[key[0]].leaves + self.more("leaves", key[0])
        else:
            start = at((*self.ahead(key), "ends"))
        return min(NEVER, known(self.leg(key)(told(start))) + self.more("leg", key))

    def begins(self, key, at):
        errand = self.errand(key)
        arrival = at((*key, "arrives"))
        if errand[0] == "stay":
            return arrival
        host = self.hosts[errand[1]]
        if errand[0] == "counter":
            ahead = self.before(key)
            t = arrival
            if ahead:
                t = max(t, at((*ahead[-1], "begins")))
            if len(ahead) >= host.desks:
                t = max(t, sorted(at((*other, "ends")) for other in ahead)[len(ahead) - host.desks])
            return self.gate(host.hours.spans(), self.n(key), t)
        if errand[0] == "meet":
            arrivals = sorted(at((*other, "arrives")) for other in self.met(key))
            return max(host.opens + self.more("opens", host.name), arrivals[host.quorum - 1])
        ends = [at((*other, "ends")) for other in self.before(key)[-1:]]
        return max([arrival, *[min(NEVER, end + host.turn + self.more("turn", host.name)) for end in ends]])

    def ends(self, key, at):
        errand = self.errand(key)
        begin, more = at((*key, "begins")), self.more("end", key)
        if errand[0] == "meet":
            host = self.hosts[errand[1]]
            end = max(begin + host.length + self.more("length", host.name), at((*key, "arrives"))) + more
        else:
            end = begin + self.n(key) + more
        if self.behind(key) is not None:
            notice = self.hosts[errand[1]].noticed()[key] + self.more("notice", key)
            end = min(end, max(begin, at((*self.behind(key), "arrives"))) + notice)
        return min(NEVER, end)

    def rule(self, moment, at):
        """What the rule of a moment gives, at being a function from moments to numbers."""
        return getattr(self, moment[2])(moment[:2], at)

    def gives(self, moment, table, absent):
        """The same of a table, other moments being taken as absent."""
        return told(self.rule(moment, lambda other: known(table.get(other, absent))))

    def values(self):
        """The dict of all free moments: by rounds, as long as one more can be told."""
        found = {}
        more = True
        while more:
            more = [key for key in self.moments if key not in found and all(need in found for need in self.needs(key))]
            for key in more:
                found[key] = self.gives(key, found, None)
        return {key: found[key] for key in self.moments if key in found}

    def under(self, moment):
        """All moments that this one rests on, in order."""
        found, left = set(), [moment]
        while left:
            for need in self.needs(left.pop()):
                if need not in found:
                    found.add(need)
                    left.append(need)
        return [key for key in self.moments if key in found]

    def things(self):
        """[29]: the dict from all things to their told values."""
        found = {}
        for person in self.people.values():
            found["leaves", person.name] = person.leaves
            for key in [key for key in self.keys if key[0] == person.name]:
                errand = self.errand(key)
                found["leg", key] = 0
                if len(errand) == 3:
                    found["n", key] = errand[2]
                found["end", key] = 0
                if errand[0] == "room" and key in self.hosts[errand[1]].noticed():
                    found["notice", key] = self.hosts[errand[1]].noticed()[key]
        for host in self.hosts.values():
            if isinstance(host, Meeting):
                found["opens", host.name] = host.opens
                found["length", host.name] = host.length
        for host in self.hosts.values():
            if isinstance(host, Room):
                found["turn", host.name] = host.turn
        return found


def worked(day, lateness=None):
    """The dict of all moments of a day that is not barred, by hand."""
    return ByHand(day, lateness).values()


def some_map(chance):
    """A map of a way, often a plain one."""
    kind = chance.randrange(9)
    if kind < 4:
        return steady(chance.randrange(12))
    if kind == 4:
        return by_slots(chance.randrange(1, 20), [chance.randrange(15) for _ in range(chance.randrange(1, 4))])
    if kind == 5:
        return by_slots(7, [9, 2], last=chance.randrange(60))
    if kind == 6:
        return since(chance.randrange(30)) >> steady(chance.randrange(4))
    if kind == 7:
        return Rising([(0, 12, False), (12, 15, True)])
    return nowhere() if chance.random() < 0.1 else until(chance.randrange(20, 200))


def some_hours(chance):
    if chance.random() < 0.4:
        return None
    minutes = sorted(chance.sample(range(90), 2 * chance.randrange(0 if chance.random() < 0.1 else 1, 4)))
    return Hours([(minutes[k], minutes[k + 1] + (200 if k + 2 == len(minutes) else 0))
                  for k in range(0, len(minutes), 2)])


def some_n(chance):
    return chance.choice([0, 0, 1, 2, 3, 5, 8, chance.randrange(20)])


def some_errand(chance, names, met):
    kind = chance.choice(["stay", "counter", "counter", "room", "room", "meet"])
    if kind == "meet":
        chances = [name for name in names["meet"] if name not in met]
        if chances:
            met.append(chance.choice(chances))
            return ("meet", met[-1])
        kind = "stay"
    return (kind, chance.choice(names[kind]), some_n(chance))


def some_order(chance, keys, wild):
    """An order of keys; seldom one that bars the day, if it is not wild."""
    return sorted(keys, key=lambda key: (chance.random() * (9 if wild else 0.4) + key[1], key[0]))


def some_day(seed, people=3, errands=3, plain=False, wild=False):
    """A day made by chance; it may be barred."""
    chance = random.Random(seed)
    places = ["inn", "hall", "mill"][:chance.randrange(1, 4)]
    names = {"stay": places, "counter": ["bank", "till"], "room": ["bath", "loft"], "meet": ["talk", "chat"]}
    persons = []
    for name in ["bo", "ann", "cy", "di", "ed", "flo"][:people]:
        met = []
        row = [some_errand(chance, names, met) for _ in range(chance.randrange(errands + 1))]
        row = [None if chance.random() < 0.08 else errand for errand in row]
        persons.append(Person(name, chance.choice(places), chance.choice([0, 0, 5, chance.randrange(40)]), row))
    at = {}
    for person in persons:
        for key in person.own_keys():
            at.setdefault(person.errands[key[1]][1], []).append(key)
    legs = {(one, other): some_map(chance) for one in places for other in places if one != other}
    counters = [Counter(name, chance.choice(places), 1 if plain else chance.randrange(1, 4), some_hours(chance),
                        some_order(chance, at.get(name, []), wild)) for name in names["counter"]]
    rooms = []
    for name in names["room"]:
        order = some_order(chance, at.get(name, []), wild)
        guests = order[-1:] if plain else [key for key in order if chance.random() < 0.6]
        rooms.append(Room(name, chance.choice(places), chance.choice([0, 1, 4]), order,
                          {key: chance.choice([0, 1, 3, 9]) for key in guests}))
    meetings = [Meeting(name, chance.choice(places), chance.randrange(40), some_n(chance),
                        len(at[name]) if plain else chance.randrange(1, len(at[name]) + 1))
                for name in names["meet"] if name in at]
    return Day(persons, Ways(legs), counters, meetings, rooms)


def some_days(many, people=3, errands=3, plain=False, start=0):
    """So many days that are not barred."""
    found = []
    seed = start
    while len(found) < many:
        day = some_day(seed, people, errands, plain)
        hand = ByHand(day)
        if len(hand.values()) == len(hand.moments):
            found.append(day)
        seed += 1
    return found
