"""Steps of systems that are known to be such."""

from glassladder.granting import granted
from glassladder.lines import worth
from glassladder.shares import is_whole
from glassladder.systems import REST, deeds_in


def rows_with(machine, deed):
    """The numbers of a machine's rows with the deed."""
    return [number for number, row in enumerate(machine[2]) if row[1] == deed]


def is_places_of(system, thing):
    """Whether anything is a place for each machine."""
    machines = system[2]
    if not isinstance(thing, tuple) or len(thing) != len(machines):
        return False
    return all([place in machine[1] for place, machine in zip(thing, machines)])


def can_do(machine, deed, number):
    """Whether anything is the number of a row with the deed, or None where the machine doesn't know it."""
    numbers = rows_with(machine, deed)
    if not numbers:
        return number is None
    return is_whole(number) and number in numbers


def is_step_of(system, thing):
    """Whether anything is a step of the system."""
    machines = system[2]
    if not isinstance(thing, tuple) or len(thing) != 2:
        return False
    deed, rows = thing
    if deed != REST and deed not in deeds_in(machines):
        return False
    if not isinstance(rows, tuple) or len(rows) != len(machines):
        return False
    return all([can_do(machine, deed, number) for machine, number in zip(machines, rows)])


def rows_from(machine, place, deed):
    """What a step of the deed may have of the machine at this place."""
    numbers = rows_with(machine, deed)
    if not numbers:
        return [None]
    return [number for number in numbers if machine[2][number][0] == place]


def one_of_each(lists):
    """All tuples with one of each list, the first one's changing last."""
    chosen = [()]
    for some in lists:
        chosen = [ahead + (one,) for ahead in chosen for one in some]
    return chosen


def rest_of(system):
    """The step `rest`."""
    return (REST, tuple([None for machine in system[2]]))


def steps_at_of(system, places, deed):
    """The steps of a deed from the places, by rows' numbers."""
    numbers = [rows_from(machine, place, deed) for machine, place in zip(system[2], places)]
    return [(deed, rows) for rows in one_of_each(numbers)]


def steps_at(system, places):
    """The steps from the places: `rest`, then by deeds, then by rows' numbers."""
    steps = [rest_of(system)]
    for deed in deeds_in(system[2]):
        steps.extend(steps_at_of(system, places, deed))
    return steps


def all_steps(system):
    """The steps from any places: `rest`, then by deeds, then by rows' numbers."""
    steps = [rest_of(system)]
    for deed in deeds_in(system[2]):
        numbers = [rows_with(machine, deed) or [None] for machine in system[2]]
        steps.extend([(deed, rows) for rows in one_of_each(numbers)])
    return steps


def rows_done(system, step):
    """The rows that a step does."""
    return [machine[2][number] for machine, number in zip(system[2], step[1]) if number is not None]


def wishes_done(system, step):
    """The wishes of all rows that a step does."""
    return [wish for row in rows_done(system, step) for wish in row[2]]


def sets_done(system, step):
    """What a step sets, boxes rising."""
    return tuple(sorted([one for row in rows_done(system, step) for one in row[3]], key=lambda pair: pair[0]))


def boxes_read(system, step):
    """The boxes that a step reads, rising."""
    return [box for box, line in sets_done(system, step) if line is None]


def stands_at(system, places, step):
    """Whether the from of each row that the step does is there."""
    parts = list(zip(system[2], places, step[1]))
    return all([number is None or machine[2][number][0] == place for machine, place, number in parts])


def places_behind(system, places, step):
    """The places behind the step."""
    parts = list(zip(system[2], places, step[1]))
    return tuple([place if number is None else machine[2][number][4] for machine, place, number in parts])


def first_barred(wishes, numbers):
    """The number of the first wish that isn't granted, or None."""
    for number, wish in enumerate(wishes):
        if not granted(wish, numbers):
            return number
    return None


def numbers_behind(system, numbers, step, reads):
    """The boxes' numbers behind the step, by those ahead and what is read, all dicts."""
    behind = dict(numbers)
    for box, line in sets_done(system, step):
        behind[box] = reads[box] if line is None else worth(line, numbers)
    return behind
