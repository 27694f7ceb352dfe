"""Runs that break a saying."""

from glassladder.drifting import counts, is_run, letters_of
from glassladder.errors import TooMany
from glassladder.rounds import holds
from glassladder.sayings import atoms_of, look_at_saying


def is_breaking(system, saying, thing):
    """Whether anything is a real run that counts and by which the saying doesn't hold."""
    look_at_saying(system, saying)
    if not is_run(system, thing) or not counts(system, thing):
        return False
    try:
        letters = letters_of(system, thing, atoms_of(saying))
    except TooMany:
        return False
    return not holds(saying, letters)
