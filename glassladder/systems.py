"""Systems: boxes, wishes of the numbers at first, machines side by side, and deeds that are fair."""

from glassladder.errors import NoSystem
from glassladder.granting import is_wish
from glassladder.lines import is_line, is_name, is_rising, names_of

REST = "rest"
MOST_BOXES = 4
MOST_BEGINS = 8
MOST_MACHINES = 4
MOST_PLACES = 6
MOST_ROWS = 8
MOST_ROW_WISHES = 6


def is_tuple_of(thing, fewest, most):
    """Whether anything is a tuple of so many things."""
    return isinstance(thing, tuple) and fewest <= len(thing) <= most


def is_called_so(thing):
    """Whether anything may be what a part of a system is called."""
    return is_name(thing) and thing != REST


def are_unlike(names):
    """Whether none of the names stands twice."""
    return len(set(names)) == len(names)


def is_line_over(boxes, thing):
    """Whether anything is a line with no other names than boxes."""
    return is_line(thing) and all([name in boxes for name in names_of(thing)])


def is_wish_over(boxes, thing):
    """Whether anything is a wish with no other names than boxes."""
    return is_wish(thing) and is_line_over(boxes, thing[1])


def is_loose_wish(boxes, thing):
    """Whether anything is a wish over boxes that is no `just`."""
    return is_wish_over(boxes, thing) and thing[0] != "just"


def are_wishes_over(boxes, thing, most):
    """Whether anything is a tuple of at most so many wishes over boxes."""
    return is_tuple_of(thing, 0, most) and all([is_wish_over(boxes, wish) for wish in thing])


def are_boxes(thing):
    """Whether anything can be a system's boxes."""
    return is_tuple_of(thing, 0, MOST_BOXES) and all([is_called_so(box) for box in thing]) and is_rising(thing)


def are_places(thing):
    """Whether anything can be a machine's places."""
    return is_tuple_of(thing, 1, MOST_PLACES) and all([is_called_so(place) for place in thing]) and are_unlike(thing)


def is_one_set(boxes, thing):
    """Whether anything is a box with a line over boxes, or with None."""
    return is_tuple_of(thing, 2, 2) and thing[0] in boxes and (thing[1] is None or is_line_over(boxes, thing[1]))


def are_sets(boxes, thing):
    """Whether anything can be what a row sets."""
    if not isinstance(thing, tuple) or not all([is_one_set(boxes, one) for one in thing]):
        return False
    return is_rising([box for box, line in thing])


def is_row(boxes, places, thing):
    """Whether anything is a row of a machine with these places."""
    if not is_tuple_of(thing, 5, 5):
        return False
    ahead, deed, wishes, sets, behind = thing
    if ahead not in places or behind not in places or not is_called_so(deed):
        return False
    return are_wishes_over(boxes, wishes, MOST_ROW_WISHES) and are_sets(boxes, sets)


def is_machine(boxes, thing):
    """Whether anything is a machine by itself."""
    if not is_tuple_of(thing, 3, 3):
        return False
    name, places, rows = thing
    if not is_called_so(name) or not are_places(places) or not is_tuple_of(rows, 0, MOST_ROWS):
        return False
    return all([is_row(boxes, places, row) for row in rows])


def wrong_machine(boxes, machines):
    """The number of the first thing that is no machine, or whose name stood ahead, or None."""
    names = []
    for number, machine in enumerate(machines):
        if not is_machine(boxes, machine) or machine[0] in names:
            return number
        names.append(machine[0])
    return None


def look_at_machines(boxes, thing):
    """Refuses what can't be a system's machines."""
    if not isinstance(thing, tuple):
        raise NoSystem("machines", None)
    number = wrong_machine(boxes, thing)
    if number is not None or not is_tuple_of(thing, 1, MOST_MACHINES):
        raise NoSystem("machines", number)


def sets_by_deeds(machine):
    """All boxes that a machine's rows set, as tuples (deed, box)."""
    return [(deed, box) for ahead, deed, wishes, sets, behind in machine[2] for box, line in sets]


def deed_set_twice(machines):
    """The least deed of which rows of two machines set one box, or None."""
    ahead = []
    deeds = []
    for machine in machines:
        here = sets_by_deeds(machine)
        deeds.extend([deed for deed, box in here if (deed, box) in ahead])
        ahead.extend(here)
    return min(deeds, default=None)


def deeds_in(machines):
    """The deeds of all rows, rising."""
    return sorted({row[1] for machine in machines for row in machine[2]})


def is_fair(machines, thing):
    """Whether anything can be a system's fair deeds."""
    deeds = deeds_in(machines)
    return isinstance(thing, tuple) and all([deed in deeds for deed in thing]) and is_rising(thing)


def look_at_system(thing):
    """None of a system; what is none is refused."""
    if not is_tuple_of(thing, 4, 4):
        raise NoSystem("form", None)
    boxes, begins, machines, fair = thing
    if not are_boxes(boxes):
        raise NoSystem("boxes", None)
    if not are_wishes_over(boxes, begins, MOST_BEGINS):
        raise NoSystem("begins", None)
    look_at_machines(boxes, machines)
    deed = deed_set_twice(machines)
    if deed is not None:
        raise NoSystem("sets", deed)
    if not is_fair(machines, fair):
        raise NoSystem("fair", None)


def deeds_of(system):
    """The deeds of a system, rising."""
    look_at_system(system)
    return deeds_in(system[2])


def first_places(system):
    """The places where the machines begin, of a system that is known to be one."""
    return tuple([places[0] for name, places, rows in system[2]])


def begin_places(system):
    """The places where a system's machines begin."""
    look_at_system(system)
    return first_places(system)
