"""A house told step by step, for tests: what each deed leaves of sayings' words, ways and asks."""

import itertools

from glassladder.breaking import is_breaking
from glassladder.errors import NoSaying, NoSystem
from glassladder.ladder import Ladder
from glassladder.looker import look_at_joined
from glassladder.made import machine_of
from glassladder.sayings import look_at_saying
from glassladder.systems import look_at_system


def steps_of(system):
    """All steps from any places, each with the places from which it can be done."""
    told = {}
    deeds = sorted({row[1] for machine in system[2] for row in machine[2]})
    for places in itertools.product(*(machine[1] for machine in system[2])):
        here = [("rest", (None,) * len(places))]
        for deed in deeds:
            some = []
            for machine, place in zip(system[2], places):
                knows = any(row[1] == deed for row in machine[2])
                some.append([number for number, row in enumerate(machine[2]) if row[1] == deed and row[0] == place]
                            if knows else [None])
            here.extend((deed, rows) for rows in itertools.product(*some))
        told[places] = here
    return told


def is_step_so(system, step):
    """Whether a step is one of the system."""
    deed, rows = step
    if deed != "rest" and not any(row[1] == deed for machine in system[2] for row in machine[2]):
        return False
    for machine, number in zip(system[2], rows):
        numbers = [at for at, row in enumerate(machine[2]) if row[1] == deed]
        if number not in (numbers or [None]):
            return False
    return True


def asks_of(old, new, saying, paper):
    """What is looked at anew of a paper."""
    if paper is None or old == new:
        return []
    told = [("begin",)] if old[1] != new[1] else []
    steps = steps_of(new)
    choices = machine_of(saying)[0]
    for number, (entry_places, stand, wishes) in enumerate(paper[0]):
        fit = [places for places in steps
               if all(one is None or one == place for one, place in zip(entry_places, places))]
        for places in fit:
            for step in steps[places]:
                turned = any(at is not None and one[2][at] != other[2][at]
                             for one, other, at in zip(old[2], new[2], step[1]))
                if turned or not is_step_so(old, step):
                    for n in range(len(choices[stand])):
                        if (number, step, n) not in told:
                            told.append((number, step, n))
    return told


class Mirror:
    """What a house should tell."""

    def __init__(self, system, **more):
        self.now, self.more = system, more
        self.kept = {}
        self.past = []
        self.log = []

    def refused(self, deed):
        """The words by which a deed is refused, or None; done is what it changes otherwise."""
        word, *handed = deed
        system, sayings = self.now, {name: one["saying"] for name, one in self.kept.items()}
        return self.changed(word, handed, system, sayings)

    def changed(self, word, handed, system, sayings):
        sayings = dict(sayings)
        if word == "put":
            name, saying = handed
            if not (isinstance(name, str) and 0 < len(name) < 9 and all("a" <= sign <= "z" for sign in name)):
                return "NoName"
            if not is_so(look_at_saying, NoSaying, system, saying):
                return "NoSaying"
            if name not in sayings and len(sayings) == 4:
                return "TooMany"
            sayings[name] = saying
        elif word == "drop":
            if not isinstance(handed[0], str) or handed[0] not in sayings:
                return "NoName"
            del sayings[handed[0]]
        elif word == "row":
            at, number, row = handed
            if type(at) is not int or type(number) is not int or not 0 <= at < len(system[2]):
                return "NoMachine"
            name, places, rows = system[2][at]
            if not 0 <= number < len(rows):
                return "NoMachine"
            machine = (name, places, rows[:number] + (row,) + rows[number + 1:])
            system = (system[0], system[1], system[2][:at] + (machine,) + system[2][at + 1:], system[3])
            if not is_so(look_at_system, NoSystem, system):
                return "NoSystem"
            if not all(is_so(look_at_saying, NoSaying, system, saying) for saying in sayings.values()):
                return "NoSaying"
        else:
            system = (system[0], handed[0]) + system[2:]
            if not is_so(look_at_system, NoSystem, system):
                return "NoSystem"
        return (system, sayings)

    def do(self, deeds):
        """Does deeds as one; told is None, or the number of the first that is refused and by what."""
        system, sayings = self.now, {name: one["saying"] for name, one in self.kept.items()}
        for number, (word, *handed) in enumerate(deeds):
            come_to = self.changed(word, handed, system, sayings)
            if isinstance(come_to, str):
                return number, come_to
            system, sayings = come_to
        self.past.append((self.now, self.kept))
        self.kept = {name: self.looked_at(name, saying, system) for name, saying in sayings.items()}
        self.now = system
        return None

    def looked_at(self, name, saying, system):
        one = self.kept.get(name)
        if one is None or one["saying"] != saying:
            return self.searched(system, saying, [])
        if system == self.now:
            return dict(one, way="stayed", asks=[])
        asks = asks_of(self.now, system, saying, one["paper"])
        if one["paper"] is not None:
            entries, begin, leads, why = one["paper"]
            left = (entries, begin, [[lead for lead in some if is_step_so(system, lead[0])] for some in leads], why)
            if look_at_joined(system, saying, left) is None:
                return dict(one, paper=left, way="stayed", asks=asks)
        if one["run"] is not None and is_breaking(system, saying, one["run"]):
            return dict(one, way="replayed", asks=asks)
        return self.searched(system, saying, asks)

    def searched(self, system, saying, asks):
        ladder = Ladder(system, saying, **self.more)
        return {"saying": saying, "word": ladder.word(), "paper": ladder.paper(), "run": ladder.run(),
                "way": "searched", "asks": asks}

    def back(self, many):
        self.now, self.kept = self.past[-many]
        self.past = self.past[:-many]


def is_so(look, error, *things):
    """Whether a look refuses nothing."""
    try:
        look(*things)
    except error:
        return False
    return True
