"""Tables through wishes: a system seen by places, a made machine's stands, and which wishes are granted."""

from glassladder.errors import TooMany
from glassladder.granting import contraries, put_all
from glassladder.joined import known_by, set_by
from glassladder.looker import BARRED, ground_of, lots_of
from glassladder.made import machine_of
from glassladder.moves import places_behind, steps_at
from glassladder.ranks import Memory, falls_along
from glassladder.sayings import look_at_saying
from glassladder.systems import first_places
from glassladder.whys import NONE, come_to_by, first_lacking, inner_numbers, numbers_by_starts, pieces, told_lap

MOST_ENTRIES = 400


class Seen:
    """The entries come to so far, seen through wishes."""

    def __init__(self, ground, wishes):
        self.ground = ground
        self.through = list(wishes)
        self.entries = []
        self.numbers = {}

    def number_for(self, entry):
        """The number of an entry, put behind the others where it wasn't come to yet."""
        if entry not in self.numbers:
            if len(self.entries) == MOST_ENTRIES:
                raise TooMany(MOST_ENTRIES)
            self.numbers[entry] = len(self.entries)
            self.entries.append(entry)
        return self.numbers[entry]

    def fan_behind(self, known, sets, places, stand, told):
        """The fan by what is known, which can be, to entries whose first wishes are told."""
        if len(told) == len(self.through):
            return ("to", self.number_for((places, stand, told)))
        memory = self.ground[3]
        wish = self.through[len(told)]
        fans = []
        for one in [wish] + contraries(wish):
            more = known + [put_all(one, sets)]
            if memory.is_possible(more):
                fans.append(self.fan_behind(more, sets, places, stand, told + (one,)))
        return fans[0] if len(fans) == 1 else ("split", wish, fans[0], fans[1])

    def begin_fan(self):
        """The fan to the entries with which the table begins."""
        system, atoms, machine, memory = self.ground
        known = list(system[1])
        if not memory.is_possible(known):
            return BARRED
        return self.fan_behind(known, {}, first_places(system), 0, ())

    def leads_from(self, entry):
        """The leads from an entry, and, for each of them, what is known there."""
        system, atoms, machine, memory = self.ground
        places, stand, wishes = entry
        leads = []
        grounds = []
        for step in steps_at(system, places):
            sets = set_by(system, step)
            behind = places_behind(system, places, step)
            for n, (asks, to, kept) in enumerate(machine[0][stand]):
                known = known_by(system, atoms, asks, places, wishes, step)
                if known is not None and memory.is_possible(known):
                    leads.append((step, n, self.fan_behind(known, sets, behind, to, ())))
                    grounds.append(known)
        return (leads, grounds)

    def ties_by(self, start, lead, known):
        """The ties of a lead from the entry with this number."""
        system, atoms, machine, memory = self.ground
        step, n, fan = lead
        lots = lots_of(system, machine, step, machine[0][self.entries[start][1]][n][2])
        ties = []
        for end in ends_in(fan):
            sets = set_by(system, step)
            there = [put_all(wish, sets) for wish in self.entries[end][2]]
            ties.append((start, end, lots, step, n, known + there, sets))
        return ties


def ends_in(fan):
    """The numbers of all entries to which a fan leads, as they stand there."""
    if fan[0] == "to":
        return [fan[1]]
    if fan[0] == "barred":
        return []
    return ends_in(fan[2]) + ends_in(fan[3])


def table_by(ground, wishes):
    """The table of what a paper is held against, through wishes."""
    seen = Seen(ground, wishes)
    begin = seen.begin_fan()
    leads = []
    ties = []
    while len(leads) < len(seen.entries):
        start = len(leads)
        some, grounds = seen.leads_from(seen.entries[start])
        leads.append(some)
        for lead, known in zip(some, grounds):
            ties.extend(seen.ties_by(start, lead, known))
    return (seen.entries, begin, leads, ties)


def table(system, saying, wishes):
    """The entries, the begin, the leads and the ties of a system and a saying through wishes."""
    look_at_saying(system, saying)
    return table_by(ground_of(system, saying), wishes)


def begins_of(begin):
    """The numbers in a fan, rising."""
    return sorted(set(ends_in(begin)))


def cut_by(search, part, inner, line):
    """The numbers of those inner ties that one line for all entries lets stay; None where it may rise along one."""
    memory, ties, many, ranks = search
    falls = falls_along(memory, {entry: line for entry in part}, [ties[number] for number in inner])
    if falls is None:
        return None
    return [number for number, fall in zip(inner, falls) if not fall]


def looked_at_piece(search, part, inner):
    """Of a piece and the numbers of its ties ("why", why), or ("lap", part, inner) of one in it that has all lots."""
    memory, ties, many, ranks = search
    if not inner:
        return ("why", NONE)
    lot = first_lacking(ties, inner, many)
    if lot is not None:
        return ("why", ("lot", lot))
    for line in ranks:
        left = cut_by(search, part, inner, line)
        if left is not None and len(left) < len(inner):
            found = looked_at_lot(search, part, left)
            if found[0] == "lap":
                return found
            return ("why", ("rank", tuple([line for entry in part]), found[1]))
    return ("lap", part, inner)


def looked_at_lot(search, entries, numbers):
    """Of a lot of entries and the numbers of ties among them what is told of a piece."""
    ties = search[1]
    parts = pieces(entries, [ties[number] for number in numbers])
    told = []
    for part, inner in zip(parts, inner_numbers(ties, numbers, parts)):
        found = looked_at_piece(search, part, inner)
        if found[0] == "lap":
            return found
        told.append((tuple(part), found[1]))
    return ("why", ("parts", tuple(told)))


def lap_or_why(memory, many, found, ranks):
    """Of a table ("why", why) by ranks, or ("lap", stem, lap, part, inner): numbers of ties, and the lap's piece."""
    entries, begin, leads, ties = found
    search = (memory, ties, many, ranks)
    numbers = list(range(len(ties)))
    come_to = looked_at_lot(search, list(range(len(entries))), numbers)
    if come_to[0] == "why":
        return come_to
    word, part, inner = come_to
    onward = numbers_by_starts(list(range(len(entries))), ties, numbers)
    lap = told_lap(come_to_by(begins_of(begin), ties, onward), ties, part, inner, many)
    return lap + (part, inner)


def tie_anew(tie):
    """A tie with a new list and dict."""
    start, end, lots, step, n, known, sets = tie
    return (start, end, lots, step, n, list(known), dict(sets))


def sought_by(system, saying, found, ranks):
    """Of a table a lap of ties with all lots, and a stem to it, or a why that there is none, by ranks."""
    ties = found[3]
    told = lap_or_why(Memory(), machine_of(saying)[1] + len(system[3]), found, ranks)
    if told[0] == "why":
        return told
    return ("lap", [tie_anew(ties[number]) for number in told[1]], [tie_anew(ties[number]) for number in told[2]])
