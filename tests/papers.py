"""Joined papers for tests: tables through wishes, written here step by step, and systems without boxes by chance."""

import itertools

from glassladder.granting import can_be, contraries, put_all
from glassladder.joined import conditions, set_by
from glassladder.made import machine_of
from glassladder.moves import places_behind as behind, steps_at as steps_from
from glassladder.whys import sought


class Table:
    """The entries, the begin, the leads and the ties of a system and a saying through wishes."""

    def __init__(self, system, saying, wishes=()):
        self.system, self.saying, self.through = system, saying, wishes
        self.machine = machine_of(saying)
        self.entries, self.numbers, self.leads, self.ties = [], {}, [], []
        self.begin = self.fan(list(system[1]), {}, tuple(machine[1][0] for machine in system[2]), 0)
        self.begins = tos(self.begin)
        while len(self.leads) < len(self.entries):
            self.lead(len(self.leads))

    def number(self, places, stand, truths):
        key = (places, stand, truths)
        if key not in self.numbers:
            self.numbers[key] = len(self.entries)
            wishes = tuple(wish if truth else contraries(wish)[0] for wish, truth in zip(self.through, truths))
            self.entries.append((places, stand, wishes))
        return self.numbers[key]

    def fan(self, known, sets, places, stand, truths=()):
        if len(truths) == len(self.through):
            return ("to", self.number(places, stand, truths)) if can_be(known) else ("barred",)
        wish = self.through[len(truths)]
        sides = [(truth, known + [put_all(one, sets)])
                 for truth, one in ((True, wish), (False, contraries(wish)[0]))]
        fans = [self.fan(more, sets, places, stand, truths + (truth,)) for truth, more in sides if can_be(more)]
        return ("split", wish, *fans) if len(fans) == 2 else fans[0] if fans else ("barred",)

    def lead(self, number):
        places, stand, wishes = self.entries[number]
        here = []
        for step in steps_from(self.system, places):
            for n, (asks, to, kept) in enumerate(self.machine[0][stand]):
                known = conditions(self.system, self.saying, places, stand, wishes, step, n)
                if known is None or not can_be(known):
                    continue
                fan = self.fan(known, set_by(self.system, step), behind(self.system, places, step), to)
                here.append((step, n, fan))
                fair = tuple(self.machine[1] + k for k, deed in enumerate(self.system[3]) if deed == step[0])
                sets = set_by(self.system, step)
                self.ties.extend((number, end, kept + fair, step, n,
                                  known + [put_all(wish, sets) for wish in self.entries[end][2]], sets)
                                 for end in tos(fan))
        self.leads.append(here)

    def many(self):
        return self.machine[1] + len(self.system[3])

    def sought(self):
        return sought(len(self.entries), self.begins, [tie[:3] for tie in self.ties], self.many())

    def paper(self, why=None):
        """The paper with a why, or with the one that is sought; None where there is a lap."""
        if why is None:
            word, *told = self.sought()
            if word == "lap":
                return None
            why = told[0]
        return (list(self.entries), self.begin, [list(some) for some in self.leads], why)


def tos(fan):
    """The entries to which a fan leads."""
    if fan[0] == "to":
        return [fan[1]]
    return [end for side in fan[2:] for end in tos(side)] if fan[0] == "split" else []


def with_item(some, at, item):
    """The list, or tuple, with another item."""
    return some[:at] + type(some)([item]) + some[at + 1:]


def some_small_system(chance, machines=2):
    """A system by chance without boxes."""
    told = []
    for name in ("one", "two", "three")[:chance.randint(1, machines)]:
        places = ("a", "b", "c")[:chance.randint(1, 3)]
        rows = tuple((chance.choice(places), chance.choice(("go", "come", "stay")), (), (), chance.choice(places))
                     for _ in range(chance.randint(0, 4)))
        told.append((name, places, rows))
    known = sorted({row[1] for machine in told for row in machine[2]})
    return ((), (), tuple(told), tuple(deed for deed in known if chance.random() < 0.4))


def atoms_over(system):
    """Atoms over a system: its places and deeds, and `rest`."""
    atoms = [("place", name, place) for name, places, rows in system[2] for place in places]
    deeds = sorted({row[1] for machine in system[2] for row in machine[2]})
    return atoms + [("deed", deed) for deed in deeds] + [("deed", "rest")]


def some_saying_over(chance, atoms, most):
    """A saying by chance over these atoms."""
    if most == 1 or chance.random() < 0.15:
        return chance.choice(atoms)
    word = chance.choice(("not", "and", "or", "always", "always", "ever", "ever", "until"))
    many = 2 if word in ("and", "or", "until") else 1
    return (word,) + tuple(some_saying_over(chance, atoms, most - 1) for _ in range(many))


def rounds_of(system, most):
    """All runs of a system without boxes with no more moves than most."""
    first = tuple(machine[1][0] for machine in system[2])
    paths = [([], [first])]
    for _ in range(most):
        paths = [(steps + [step], places + [behind(system, places[-1], step)])
                 for steps, places in paths for step in steps_from(system, places[-1])]
        for steps, places in paths:
            for start in range(len(steps)):
                if places[start] == places[-1]:
                    moves = [(step, (), ()) for step in steps]
                    yield ((), moves[:start], moves[start:])


def all_places(system):
    return list(itertools.product(*(machine[1] for machine in system[2])))
