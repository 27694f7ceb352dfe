"""Steps of systems: what is handed in as a system is looked at first."""

from glassladder.moves import (
    boxes_read, is_places_of, is_step_of, places_behind, sets_done, stands_at, steps_at, wishes_done,
)
from glassladder.systems import look_at_system


def is_places(system, thing):
    """Whether anything is places of the system."""
    look_at_system(system)
    return is_places_of(system, thing)


def is_step(system, thing):
    """Whether anything is a step of the system."""
    look_at_system(system)
    return is_step_of(system, thing)


def steps_from(system, places):
    """The steps from the places: `rest`, then by deeds, then by rows' numbers."""
    look_at_system(system)
    return steps_at(system, places)


def wishes_of(system, step):
    """The wishes of all rows of a step, in order."""
    look_at_system(system)
    return wishes_done(system, step)


def sets_of(system, step):
    """What a step sets: a tuple of tuples (box, line), None in the line's place where it is read."""
    look_at_system(system)
    return sets_done(system, step)


def behind(system, places, step):
    """The places behind a step from places."""
    look_at_system(system)
    return places_behind(system, places, step)


def reads_of(system, step):
    """The boxes that a step reads, rising."""
    look_at_system(system)
    return boxes_read(system, step)


def can_stand(system, places, step):
    """Whether a step can stand at places."""
    look_at_system(system)
    return stands_at(system, places, step)
