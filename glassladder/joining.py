"""Rungs one behind the other as one, and papers of a lower system joined by a rung to ones of the upper."""

from glassladder.looker import BARRED, fits, places_asked
from glassladder.made import machine_of
from glassladder.moves import one_of_each, steps_at
from glassladder.rungs import led_saying, led_step
from glassladder.systems import first_places


def part_behind(part, meaning):
    """What is told of a machine by a part of a meaning and, behind it, by the next rung's meaning."""
    if part is None or meaning[part[0]] is None:
        return None
    n, led = meaning[part[0]]
    below = dict(led)
    return (n, tuple([(place, below[lower]) for place, lower in part[1]]))


def behind_one_another(rungs):
    """The rung of several ones, the lower system of each being the upper one of the next."""
    meaning = rungs[0][3]
    for rung in rungs[1:]:
        meaning = tuple([part_behind(part, rung[3]) for part in meaning])
    word = "same" if all([rung[0] == "same" for rung in rungs]) else "more"
    return (word, rungs[0][1], rungs[-1][2], meaning)


def places_led_to(part, lower_places):
    """The places of an upper machine that are led to those of a lower entry, None for any place."""
    if part is None or lower_places[part[0]] is None:
        return [None]
    return [place for place, lower in part[1] if lower == lower_places[part[0]]]


def upper_entries(rung, entries):
    """The entries in the stead of the lower ones, and, for each lower one, the numbers of those in its stead."""
    told = []
    steads = []
    for lower_places, stand, wishes in entries:
        here = one_of_each([places_led_to(part, lower_places) for part in rung[3]])
        steads.append(list(range(len(told), len(told) + len(here))))
        told.extend([(places, stand, wishes) for places in here])
    return (told, steads)


def known_behind(system, entry_places, step):
    """The places behind a step from an entry, None where any place of several may be."""
    told = []
    for machine, place, number in zip(system[2], entry_places, step[1]):
        if number is not None:
            told.append(machine[2][number][4])
        elif place is None and len(machine[1]) == 1:
            told.append(machine[1][0])
        else:
            told.append(place)
    return tuple(told)


def upper_fan(fan, entries, steads, places):
    """A lower fan, each "to" leading to that upper entry in its end's stead which the places fit."""
    if fan[0] == "to":
        numbers = [number for number in steads[fan[1]] if fits(entries[number][0], places)]
        return ("to", numbers[0]) if numbers else BARRED
    if fan[0] == "barred":
        return BARRED
    word, wish, first, second = fan
    return (word, wish, upper_fan(first, entries, steads, places), upper_fan(second, entries, steads, places))


def steps_asked(system, entry_places):
    """The steps from places that fit an entry, each once, as they come."""
    steps = {step: True for places in places_asked(system, entry_places) for step in steps_at(system, places)}
    return list(steps)


def upper_leads(rung, led, lower_leads, entries, steads, number):
    """The leads of an upper entry, by those of the lower one in whose stead it stands."""
    leads = []
    for step in steps_asked(rung[1], entries[number][0]):
        if step not in led:
            led[step] = led_step(rung, step)
        places = known_behind(rung[1], entries[number][0], step)
        leads.extend([
            (step, n, upper_fan(fan, entries, steads, places)) for other, n, fan in lower_leads if other == led[step]
        ])
    return leads


def upper_why(why, lot, steads, lots):
    """A why of a lower lot of entries, told of those in their stead, lots being told by a list."""
    if why[0] == "lot":
        return ("lot", lots[why[1]])
    if why[0] == "parts":
        parts = [(tuple([number for entry in some for number in steads[entry]]), upper_why(one, some, steads, lots))
                 for some, one in why[1]]
        return ("parts", tuple(parts))
    if why[0] == "rank":
        lines = [line for entry, line in zip(lot, why[1]) for number in steads[entry]]
        return ("rank", tuple(lines), upper_why(why[2], lot, steads, lots))
    return why


def upper_lots(rung, saying):
    """The upper numbers of all lower lots: those of the made machine, then those of fair deeds."""
    many = machine_of(saying)[1]
    return list(range(many)) + [many + rung[1][3].index(deed) for deed in rung[2][3]]


def joined_up(rung, saying, paper):
    """The joined paper of the upper system and the saying, by one of the lower system and the saying led down."""
    # The made machine of a saying led down is the very one of the saying: it knows atoms by their numbers.
    led_saying(rung, saying)
    lower_entries, begin, lower_leads, why = paper
    entries, steads = upper_entries(rung, lower_entries)
    led = {}
    leads = []
    for here, some in zip(steads, lower_leads):
        leads.extend([upper_leads(rung, led, some, entries, steads, number) for number in here])
    first = upper_fan(begin, entries, steads, first_places(rung[1]))
    lots = upper_lots(rung, saying)
    return (entries, first, leads, upper_why(why, list(range(len(lower_entries))), steads, lots))
