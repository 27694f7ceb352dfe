"""What is known where a step is done and a made machine's choice is taken, and what boxes are put by there."""

from glassladder.granting import contraries
from glassladder.lines import line_of
from glassladder.made import machine_of
from glassladder.moves import sets_done, wishes_done
from glassladder.sayings import atoms_of, is_so_at
from glassladder.shares import NOUGHT, ONE


def wishes_asked(atoms, asks):
    """The wishes of the asks, contraries where they should be False."""
    some = [(atoms[n][1], truth) for n, truth in asks if atoms[n][0] == "wish"]
    return [one for wish, truth in some for one in ([wish] if truth else contraries(wish))]


def known_by(system, atoms, asks, places, wishes, step):
    """The wishes, the step's and those of the asks; None where an ask of a place or a deed isn't so."""
    for n, truth in asks:
        if atoms[n][0] != "wish" and is_so_at(system, atoms[n], places, step) != truth:
            return None
    return list(wishes) + wishes_done(system, step) + wishes_asked(atoms, asks)


def conditions(system, saying, places, stand, wishes, step, n):
    """What is known where the step is done at the places, by choice n of the stand; None where its asks aren't so."""
    asks = machine_of(saying)[0][stand][n][0]
    return known_by(system, atoms_of(saying), asks, places, wishes, step)


def set_by(system, step):
    """A dict from the boxes that a step sets to lines, of a read one the line of a name that no box has."""
    sets = {}
    for box, line in sets_done(system, step):
        sets[box] = line_of(NOUGHT, ((box + "'", ONE),)) if line is None else line
    return sets
