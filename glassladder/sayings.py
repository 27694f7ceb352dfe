"""Sayings: how all runs of a system should go on."""

from glassladder.errors import NoSaying
from glassladder.systems import REST, deeds_in, is_loose_wish, look_at_system

YES = ("yes",)
ATOMS = ("place", "deed", "wish")
# How many sayings stand behind each word.
HALVES = {"not": 1, "and": 2, "or": 2, "always": 1, "ever": 1, "until": 2}
MOST_WITHIN = 6


def is_place_atom(system, thing):
    """Whether a tuple names a machine and a place of it."""
    if len(thing) != 3:
        return False
    return any([thing[1] == name and thing[2] in places for name, places, rows in system[2]])


def is_deed_atom(system, thing):
    """Whether a tuple names a deed, or `rest`."""
    return len(thing) == 2 and (thing[1] == REST or thing[1] in deeds_in(system[2]))


def is_wish_atom(system, thing):
    """Whether a tuple has a wish over boxes that is no `just`."""
    return len(thing) == 2 and is_loose_wish(system[0], thing[1])


def is_atom(system, thing):
    """Whether a tuple that isn't empty is an atom over the system."""
    word = thing[0]
    if word == "place":
        return is_place_atom(system, thing)
    if word == "deed":
        return is_deed_atom(system, thing)
    return word == "wish" and is_wish_atom(system, thing)


def is_within(system, thing, most):
    """Whether anything is a saying over the system with at most so many within one another."""
    if most == 0 or not isinstance(thing, tuple) or thing == ():
        return False
    word, *halves = thing
    if not isinstance(word, str):
        return False
    if word in HALVES:
        return len(halves) == HALVES[word] and all([is_within(system, half, most - 1) for half in halves])
    return thing == YES or is_atom(system, thing)


def is_saying(system, thing):
    """Whether anything is a saying over a system that is known to be one."""
    return is_within(system, thing, MOST_WITHIN)


def look_at_saying(system, thing):
    """None of a saying over the system; what is none is refused."""
    look_at_system(system)
    if not is_saying(system, thing):
        raise NoSaying("no saying over the system")


def atoms_of(saying):
    """The places, deeds and wishes in a saying, each once, as they begin."""
    if saying[0] in ATOMS:
        return [saying]
    atoms = []
    for half in saying[1:]:
        atoms.extend([atom for atom in atoms_of(half) if atom not in atoms])
    return atoms


def is_so_at(system, atom, places, step):
    """Whether an atom of a place or a deed is so at places, where the step is done."""
    if atom[0] == "deed":
        return step[0] == atom[1]
    names = [name for name, all_places, rows in system[2]]
    return places[names.index(atom[1])] == atom[2]
