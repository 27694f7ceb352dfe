"""What a house keeps: a system with sayings by names, deeds that change these, and what they leave of a paper."""

from glassladder.errors import NoDeeds, NoMachine, NoName, NoSaying, NoSystem, TooMany
from glassladder.lines import is_name
from glassladder.looker import places_asked
from glassladder.made import machine_of
from glassladder.moves import all_steps, is_step_of, steps_at
from glassladder.sayings import is_saying
from glassladder.shares import is_below
from glassladder.systems import look_at_system

MOST_SAYINGS = 4
# How many arguments stand behind each deed's word.
DEEDS = {"put": 2, "drop": 1, "row": 3, "begins": 1}


def is_kept(kept, thing):
    """Whether anything is a name in a dict of what is kept by names."""
    return isinstance(thing, str) and thing in kept


def with_saying(texts, name, saying):
    """The texts, a tuple of a system and a dict of sayings, with a saying put by a name."""
    system, sayings = texts
    if not is_name(name):
        raise NoName("no name")
    if not is_saying(system, saying):
        raise NoSaying("no saying over the system")
    if name not in sayings and len(sayings) == MOST_SAYINGS:
        raise TooMany(MOST_SAYINGS + 1)
    return (system, {**sayings, name: saying})


def without_saying(texts, name):
    """The texts without the saying by this name."""
    system, sayings = texts
    if not is_kept(sayings, name):
        raise NoName("no saying stands by this name")
    return (system, {other: saying for other, saying in sayings.items() if other != name})


def put_at(some, at, thing):
    """A tuple with another thing at a place."""
    return some[:at] + (thing,) + some[at + 1:]


def with_row(texts, machine, number, other):
    """The texts with another row of a machine, by its number and the row's."""
    system, sayings = texts
    machines = system[2]
    if not is_below(machine, len(machines)) or not is_below(number, len(machines[machine][2])):
        raise NoMachine("no row of a machine has these numbers")
    name, places, rows = machines[machine]
    changed = put_at(system, 2, put_at(machines, machine, (name, places, put_at(rows, number, other))))
    look_at_system(changed)
    if not all([is_saying(changed, saying) for saying in list(sayings.values())]):
        raise NoSaying("a saying that is kept is none over the new system")
    return (changed, sayings)


def with_begins(texts, wishes):
    """The texts with other begins."""
    system, sayings = texts
    changed = put_at(system, 1, wishes)
    look_at_system(changed)
    return (changed, sayings)


def is_deed(thing):
    """Whether anything is a tuple of a deed's word and as many arguments as stand behind it."""
    if not isinstance(thing, tuple) or thing == () or not isinstance(thing[0], str):
        return False
    return thing[0] in DEEDS and len(thing) == DEEDS[thing[0]] + 1


def texts_behind(texts, deed):
    """The texts behind a deed."""
    word, *handed = deed
    if word == "put":
        return with_saying(texts, handed[0], handed[1])
    if word == "drop":
        return without_saying(texts, handed[0])
    if word == "row":
        return with_row(texts, handed[0], handed[1], handed[2])
    return with_begins(texts, handed[0])


def texts_behind_all(texts, deeds):
    """The texts behind a list of deeds, of anything."""
    if not isinstance(deeds, list) or not all([is_deed(deed) for deed in deeds]):
        raise NoDeeds(None)
    for number, deed in enumerate(deeds):
        try:
            texts = texts_behind(texts, deed)
        except (NoName, NoSaying, TooMany, NoMachine, NoSystem):
            raise NoDeeds(number) from None
    return texts


def turned_rows(system, other):
    """The rows, as tuples (machine, number), that differ in two systems with the same machines but for rows."""
    return [
        (at, number) for at, (one, changed) in enumerate(zip(system[2], other[2]))
        for number, (row, other_row) in enumerate(zip(one[2], changed[2])) if row != other_row
    ]


def steps_turned(system, other):
    """A dict from those steps of the other system that do a row which differs, or that were none of the system."""
    turned = turned_rows(system, other)
    return {
        step: True for step in all_steps(other)
        if not is_step_of(system, step) or any([step[1][at] == number for at, number in turned])
    }


def asks_anew(system, other, saying, paper):
    """What is looked at anew of a paper of a system that turned to the other one."""
    if paper is None or system == other:
        return []
    choices = machine_of(saying)[0]
    turned = steps_turned(system, other)
    asks = {}
    if system[1] != other[1]:
        asks[("begin",)] = True
    for entry, (entry_places, stand, wishes) in enumerate(paper[0]):
        for places in places_asked(other, entry_places):
            for step in [one for one in steps_at(other, places) if one in turned]:
                for n in range(len(choices[stand])):
                    asks[(entry, step, n)] = True
    return list(asks)


def paper_left(system, paper):
    """A paper without leads of what is no step of the system."""
    entries, begin, leads, why = paper
    return (entries, begin, [[lead for lead in some if is_step_of(system, lead[0])] for some in leads], why)
