"""Rungs for tests: what a rung asks, gone through here places by places, and rungs by chance."""

import itertools

from glassladder.granting import follows
from glassladder.moves import places_behind as behind, sets_done as sets_of, steps_at as steps_from
from glassladder.moves import wishes_done as wishes_of
from tests.machines import some_system, with_part
from tests.papers import all_places


def places_led(rung, places):
    """Where upper places are led."""
    told = {}
    for place, part in zip(places, rung[3]):
        if part is not None:
            told[part[0]] = dict(part[1])[place]
    return tuple(told[n] for n in sorted(told))


def is_led_so(rung, places, step, other):
    """Whether a step from places may be led to a lower one: places behind, wishes and sets."""
    word, upper, lower, meaning = rung
    if places_led(rung, behind(upper, places, step)) != behind(lower, places_led(rung, places), other):
        return False
    ahead, below = dict(sets_of(upper, step)), dict(sets_of(lower, other))
    for box in lower[0]:
        if box in below and below[box] is None:
            continue
        if (box in below) != (box in ahead) or ahead.get(box) != below.get(box):
            return False
    return all(follows(wishes_of(upper, step), wish) for wish in wishes_of(lower, other))


def step_led(rung, step):
    """The step to which one is led, found here by going through all lower steps."""
    word, upper, lower, meaning = rung
    home = tuple(machine[1][0] if number is None else machine[2][number][0]
                 for machine, number in zip(upper[2], step[1]))
    some = [other for other in steps_from(lower, places_led(rung, home))
            if other[0] == step[0] and is_led_so(rung, home, step, other)]
    ahead = dict(sets_of(upper, step))
    very = [other for other in some if wishes_of(lower, other) == wishes_of(upper, step)
            and dict(sets_of(lower, other)) == {box: ahead[box] for box in lower[0] if box in ahead}]
    return (very or some or [("rest", (None,) * len(lower[2]))])[0]


def deeds_of_machine(machine):
    return {row[1] for row in machine[2]}


def is_more_by_going(rung):
    """Whether a rung by its form is let by as `more`, gone through here by all places."""
    word, upper, lower, meaning = rung
    if not set(lower[0]) <= set(upper[0]) or not set(lower[3]) <= set(upper[3]):
        return False
    if not all(follows(list(upper[1]), wish) for wish in lower[1]):
        return False
    first = tuple(machine[1][0] for machine in upper[2])
    if places_led(rung, first) != tuple(machine[1][0] for machine in lower[2]):
        return False
    for machine, part in zip(upper[2], meaning):
        if part is not None and not deeds_of_machine(lower[2][part[0]]) <= deeds_of_machine(machine):
            return False
    for places in all_places(upper):
        for step in steps_from(upper, places):
            other = step_led(rung, step)
            if other not in steps_from(lower, places_led(rung, places)) or not is_led_so(rung, places, step, other):
                return False
            if step[0] in lower[3] and other[0] == "rest":
                return False
    return True


def hidden_by_going(rung):
    """The hidden deeds."""
    return {step[0] for places in all_places(rung[1]) for step in steps_from(rung[1], places)
            if step[0] != "rest" and step_led(rung, step)[0] == "rest"}


def is_same_by_going(rung):
    """Whether a rung that is let by as `more` is so as `same`, too, gone through here by all places."""
    word, upper, lower, meaning = rung
    if upper[0] != lower[0] or upper[3] != lower[3] or hidden_by_going(rung):
        return False
    if not all(follows(list(lower[1]), wish) for wish in upper[1]):
        return False
    for places in all_places(upper):
        led = places_led(rung, places)
        for other in steps_from(lower, led):
            met = [step for step in steps_from(upper, places)
                   if step[0] == other[0] and places_led(rung, behind(upper, places, step)) == behind(lower, led, other)
                   and sets_of(upper, step) == sets_of(lower, other)
                   and all(follows(wishes_of(lower, other), wish) for wish in wishes_of(upper, step))]
            if not met:
                return False
    return True


def without_boxes(row, boxes):
    """A row with nothing but these boxes: wishes of others go, what is set by others is read."""
    wishes = tuple(wish for wish in row[2] if all(name in boxes for name, by in wish[1][1]))
    sets = tuple((box, one if one is None or all(name in boxes for name, by in one[1]) else None)
                 for box, one in row[3] if box in boxes)
    return with_part(with_part(row, 2, wishes), 3, sets)


def some_quotient(chance, system):
    """A rung by chance to a smaller system: machines left out, places put together, boxes left out."""
    boxes = tuple(box for box in system[0] if chance.random() < 0.7)
    kept = [chance.random() < 0.75 for _ in system[2]]
    kept[chance.randrange(len(kept))] = True
    order = [at for at, keep in enumerate(kept) if keep]
    chance.shuffle(order)
    machines, meaning = [], [None] * len(system[2])
    for n, at in enumerate(order):
        name, places, rows = system[2][at]
        lots = {place: chance.choice(places[:at + 1]) if chance.random() < 0.4 else place
                for at, place in enumerate(places)}
        lots[places[0]] = places[0]
        told = []
        for row in rows:
            row = without_boxes(with_part(with_part(row, 0, lots[row[0]]), 4, lots[row[4]]), boxes)
            if row not in told or chance.random() < 0.2:
                told.append(row)
        used = tuple(place for place in places if place in lots.values())
        machines.append((name, used, tuple(told)))
        meaning[at] = (n, tuple((place, lots[place]) for place in places))
    deeds = {row[1] for machine in machines for row in machine[2]}
    begins = tuple(wish for wish in system[1] if all(name in boxes for name, by in wish[1][1]))
    lower = (boxes, begins, tuple(machines), tuple(deed for deed in system[3] if deed in deeds))
    return (chance.choice(("more", "same")), system, lower, tuple(meaning))


def some_upper(chance):
    """A system by chance that isn't too great to be gone through by all places."""
    while True:
        system = some_system(chance)
        steps = sum(len(steps_from(system, places)) for places in itertools.islice(all_places(system), 30))
        if len(all_places(system)) <= 30 and steps <= 150:
            return system
