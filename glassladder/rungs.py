"""Rungs: smaller systems, and meanings by which what holds of them holds of greater ones."""

from glassladder.errors import NoSystem, NotShown
from glassladder.granting import follows
from glassladder.lines import names_of
from glassladder.moves import (
    all_steps, one_of_each, places_behind, rest_of, rows_from, rows_with, sets_done, steps_at_of, wishes_done,
)
from glassladder.sayings import HALVES, atoms_of, look_at_saying
from glassladder.shares import is_below
from glassladder.systems import REST, deeds_in, first_places, is_tuple_of, look_at_system

WORDS = ("more", "same")


def is_system(thing):
    """Whether anything is a system."""
    try:
        look_at_system(thing)
    except NoSystem:
        return False
    return True


def is_pair_led(place, lower_places, thing):
    """Whether anything is a tuple of the place and a lower one."""
    return is_tuple_of(thing, 2, 2) and thing[0] == place and thing[1] in lower_places


def is_machine_led(machine, lower_machines, thing):
    """Whether anything tells to which lower machine the machine is led, and each of its places there."""
    if not is_tuple_of(thing, 2, 2) or not is_below(thing[0], len(lower_machines)):
        return False
    places, lower_places = machine[1], lower_machines[thing[0]][1]
    if not is_tuple_of(thing[1], len(places), len(places)):
        return False
    return all([is_pair_led(place, lower_places, pair) for place, pair in zip(places, thing[1])])


def is_meaning(upper, lower, thing):
    """Whether anything is a meaning of the upper system in the lower one."""
    if not is_tuple_of(thing, len(upper[2]), len(upper[2])):
        return False
    parts = list(zip(upper[2], thing))
    if not all([part is None or is_machine_led(machine, lower[2], part) for machine, part in parts]):
        return False
    return sorted([part[0] for part in thing if part is not None]) == list(range(len(lower[2])))


def led_places(rung, places):
    """The lower places to which upper ones are led."""
    lower_places = [None for machine in rung[2][2]]
    for place, part in zip(places, rung[3]):
        if part is not None:
            n, led = part
            lower_places[n] = dict(led)[place]
    return tuple(lower_places)


def home_of(system, step):
    """The places of a step's rows, and of a machine that doesn't do it its first place."""
    parts = list(zip(system[2], step[1]))
    return tuple([machine[1][0] if number is None else machine[2][number][0] for machine, number in parts])


def all_follow(known, wishes):
    """Whether all wishes follow from those that are known."""
    return all([wish in known or follows(known, wish) for wish in wishes])


def is_set_so(upper_sets, lower_sets, box):
    """Whether a lower box is set as the upper one is, or is read, dicts of what is set being told."""
    if box not in lower_sets:
        return box not in upper_sets
    return lower_sets[box] is None or upper_sets.get(box) == lower_sets[box]


def is_very_set(upper_sets, lower_sets, box):
    """Whether a lower box is set by the very line, or read, or left alone, as the upper one is."""
    return (box in upper_sets) == (box in lower_sets) and upper_sets.get(box) == lower_sets.get(box)


def those_that_fit(rung, step, places, others):
    """Those of lower steps from places led to that lead to the places behind led, and set boxes as the step does."""
    word, upper, lower, meaning = rung
    behind = led_places(rung, places_behind(upper, home_of(upper, step), step))
    upper_sets = dict(sets_done(upper, step))
    some = [(other, dict(sets_done(lower, other))) for other in others if places_behind(lower, places, other) == behind]
    return [other for other, lower_sets in some if all([is_set_so(upper_sets, lower_sets, box) for box in lower[0]])]


def asks_no_more(rung, step, other):
    """Whether all wishes of a lower step follow from those of an upper one."""
    return all_follow(wishes_done(rung[1], step), wishes_done(rung[2], other))


def is_very_step(rung, step, other):
    """Whether a lower step has the very wishes of the upper one, and sets lower boxes by the very lines."""
    word, upper, lower, meaning = rung
    if wishes_done(upper, step) != wishes_done(lower, other):
        return False
    upper_sets, lower_sets = dict(sets_done(upper, step)), dict(sets_done(lower, other))
    return all([is_very_set(upper_sets, lower_sets, box) for box in lower[0]])


def steps_between(system, places, deed, behind):
    """The steps of a deed from places, but for some that don't lead to the places behind."""
    numbers = []
    for machine, place, to in zip(system[2], places, behind):
        some = rows_from(machine, place, deed)
        numbers.append([number for number in some if number is None or machine[2][number][4] == to])
    return [(deed, rows) for rows in one_of_each(numbers)]


def led_step(rung, step):
    """The lower step to which an upper one is led."""
    word, upper, lower, meaning = rung
    if step[0] not in deeds_in(lower[2]):
        return rest_of(lower)
    home = home_of(upper, step)
    places = led_places(rung, home)
    # Machines that know a deed together may have thousands of its steps from there: most lead elsewhere.
    others = steps_between(lower, places, step[0], led_places(rung, places_behind(upper, home, step)))
    some = those_that_fit(rung, step, places, others)
    for other in some:
        if is_very_step(rung, step, other):
            return other
    for other in some:
        if asks_no_more(rung, step, other):
            return other
    return rest_of(lower)


def may_be_hidden(rung, step):
    """Whether an upper step may be led to `rest`."""
    places = led_places(rung, home_of(rung[1], step))
    return those_that_fit(rung, step, places, [rest_of(rung[2])]) != []


def hidden_by(led):
    """The deeds of which some step is led to `rest`, by tuples of all steps and those to which they are led."""
    return [step[0] for step, other in led if step[0] != REST and other[0] == REST]


def all_led(rung):
    """All upper steps, each with the lower one to which it is led."""
    return [(step, led_step(rung, step)) for step in all_steps(rung[1])]


def has_no_other_deeds(rung):
    """Whether no lower machine has a row of a deed that the one led to it hasn't."""
    for machine, part in zip(rung[1][2], rung[3]):
        if part is not None and not all([deed in deeds_in([machine]) for deed in deeds_in([rung[2][2][part[0]]])]):
            return False
    return True


def is_more(rung):
    """Whether all is so that is asked of a rung of either word."""
    word, upper, lower, meaning = rung
    if not all([box in upper[0] for box in lower[0]]) or not all([deed in upper[3] for deed in lower[3]]):
        return False
    if not all_follow(list(upper[1]), lower[1]) or led_places(rung, first_places(upper)) != first_places(lower):
        return False
    if not has_no_other_deeds(rung):
        return False
    led = all_led(rung)
    if not all([other[0] != REST or may_be_hidden(rung, step) for step, other in led]):
        return False
    return not any([deed in lower[3] for deed in hidden_by(led)])


def is_met_by(rung, places, step, other):
    """Whether an upper step from places meets a lower one."""
    word, upper, lower, meaning = rung
    if led_places(rung, places_behind(upper, places, step)) != places_behind(lower, led_places(rung, places), other):
        return False
    if sets_done(upper, step) != sets_done(lower, other):
        return False
    return all_follow(wishes_done(lower, other), wishes_done(upper, step))


def are_met(rung, places, deed):
    """Whether each lower step of a deed from the places led to is met by an upper one from there."""
    word, upper, lower, meaning = rung
    steps = steps_at_of(upper, places, deed)
    others = steps_at_of(lower, led_places(rung, places), deed)
    return all([any([is_met_by(rung, places, step, other) for step in steps]) for other in others])


def all_are_met(rung):
    """Whether for any upper places each lower step from the places led to is met."""
    word, upper, lower, meaning = rung
    for deed in deeds_in(lower[2]):
        # Where a machine stands that doesn't know the deed changes nothing.
        some = [places if rows_with((name, places, rows), deed) else places[:1] for name, places, rows in upper[2]]
        if not all([are_met(rung, places, deed) for places in one_of_each(some)]):
            return False
    return True


def is_same(rung):
    """Whether all is so that is asked of the word `same` moreover."""
    word, upper, lower, meaning = rung
    if upper[0] != lower[0] or upper[3] != lower[3] or not all_follow(list(lower[1]), upper[1]):
        return False
    return not hidden_by(all_led(rung)) and all_are_met(rung)


def is_rung(thing):
    """Whether anything is a rung that is let by, between two systems."""
    if not is_tuple_of(thing, 4, 4) or thing[0] not in WORDS:
        return False
    word, upper, lower, meaning = thing
    if not is_system(upper) or not is_system(lower) or not is_meaning(upper, lower, meaning):
        return False
    return is_more(thing) and (word == "more" or is_same(thing))


def part_of(rung, name):
    """What a rung's meaning tells of the machine with this name."""
    return [part for machine, part in zip(rung[1][2], rung[3]) if machine[0] == name][0]


def is_place_shown(rung, name, place):
    """Whether the place of the machine with this name is the only one that is led to its lower place."""
    part = part_of(rung, name)
    if part is None:
        return False
    led = dict(part[1])
    return [other for other in led if led[other] == led[place]] == [place]


def is_atom_shown(rung, hidden, atom):
    """Whether an atom is shown, some deeds being hidden."""
    if atom[0] == "place":
        return is_place_shown(rung, atom[1], atom[2])
    if atom[0] == "deed":
        return not hidden if atom[1] == REST else atom[1] not in hidden
    return all([name in rung[2][0] for name in names_of(atom[1][1])])


def is_shown(rung, saying):
    """Whether a saying over the upper system is shown by a rung."""
    look_at_saying(rung[1], saying)
    hidden = hidden_by(all_led(rung))
    return all([is_atom_shown(rung, hidden, atom) for atom in atoms_of(saying)])


def led_down(rung, saying):
    """A saying that is shown, with the lower machines and places."""
    if saying[0] in HALVES:
        return (saying[0],) + tuple([led_down(rung, half) for half in saying[1:]])
    if saying[0] != "place":
        return saying
    n, led = part_of(rung, saying[1])
    return ("place", rung[2][2][n][0], dict(led)[saying[2]])


def led_saying(rung, saying):
    """A saying over the upper system, led down by a rung that shows it."""
    if not is_shown(rung, saying):
        raise NotShown("the rung doesn't show the saying")
    return led_down(rung, saying)
