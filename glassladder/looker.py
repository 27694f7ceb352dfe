"""The looker: holds a joined paper against the real text, knowing no rung and no search."""

from glassladder.granting import contraries, put_all
from glassladder.joined import known_by, set_by
from glassladder.made import machine_of
from glassladder.moves import is_step_of, one_of_each, places_behind, steps_at
from glassladder.ranks import Memory, is_ranked_why
from glassladder.sayings import atoms_of, look_at_saying
from glassladder.shares import is_below
from glassladder.systems import first_places, is_loose_wish, is_tuple_of

BARRED = ("barred",)


def ground_of(system, saying):
    """What a paper is held against: the system, the saying's atoms and made machine; and a memory of wishes."""
    return (system, atoms_of(saying), machine_of(saying), Memory())


def are_entry_places(system, thing):
    """Whether anything is a place, or None, for each machine."""
    machines = system[2]
    if not is_tuple_of(thing, len(machines), len(machines)):
        return False
    return all([place is None or place in machine[1] for place, machine in zip(thing, machines)])


def is_entry(system, machine, thing):
    """Whether anything is an entry."""
    if not is_tuple_of(thing, 3, 3):
        return False
    places, stand, wishes = thing
    if not are_entry_places(system, places) or not is_below(stand, len(machine[0])):
        return False
    return isinstance(wishes, tuple) and all([is_loose_wish(system[0], wish) for wish in wishes])


def is_fan(boxes, many, thing):
    """Whether anything is a fan to some of so many entries."""
    if not isinstance(thing, tuple) or thing == ():
        return False
    if thing[0] == "to":
        return len(thing) == 2 and is_below(thing[1], many)
    if thing[0] != "split":
        return thing == BARRED
    return len(thing) == 4 and is_loose_wish(boxes, thing[1]) and all([is_fan(boxes, many, fan) for fan in thing[2:]])


def is_lead(system, choices, many, thing):
    """Whether anything is a lead from a stand with these choices, to some of so many entries."""
    if not is_tuple_of(thing, 3, 3):
        return False
    step, n, fan = thing
    return is_step_of(system, step) and is_below(n, len(choices)) and is_fan(system[0], many, fan)


def are_leads(system, choices, many, thing):
    """Whether anything is a list of such leads, no step and n twice."""
    if not isinstance(thing, list) or not all([is_lead(system, choices, many, lead) for lead in thing]):
        return False
    return len({(step, n) for step, n, fan in thing}) == len(thing)


def has_paper_form(ground, thing):
    """Whether anything is by its form a joined paper, whatever stands there as its why."""
    system, atoms, machine, memory = ground
    if not is_tuple_of(thing, 4, 4):
        return False
    entries, begin, leads, why = thing
    if not isinstance(entries, list) or not all([is_entry(system, machine, entry) for entry in entries]):
        return False
    if not is_fan(system[0], len(entries), begin) or not isinstance(leads, list) or len(leads) != len(entries):
        return False
    stands = [machine[0][entry[1]] for entry in entries]
    return all([are_leads(system, choices, len(entries), some) for choices, some in zip(stands, leads)])


def ends_of(fan, known, sets):
    """The ends of a fan as tuples (to, known): an entry's number, None where it is barred, and what is known there."""
    if fan[0] == "to":
        return [(fan[1], known)]
    if fan[0] == "barred":
        return [(None, known)]
    word, wish, first, second = fan
    ends = ends_of(first, known + [put_all(wish, sets)], sets)
    return ends + ends_of(second, known + [put_all(other, sets) for other in contraries(wish)], sets)


def fits(entry_places, places):
    """Whether places fit those of an entry."""
    return all([one is None or one == place for one, place in zip(entry_places, places)])


def is_end_so(memory, entries, end, sets, places, stand):
    """Whether an end of a fan is so, by the places and the stand to which it leads."""
    to, known = end
    if to is None:
        return not memory.is_possible(known)
    entry = entries[to]
    if not fits(entry[0], places) or entry[1] != stand:
        return False
    return all([memory.is_known(known, put_all(wish, sets)) for wish in entry[2]])


def is_begin_so(ground, paper):
    """Whether the fan with which a paper begins is so."""
    system, atoms, machine, memory = ground
    ends = ends_of(paper[1], list(system[1]), {})
    return all([is_end_so(memory, paper[0], end, {}, first_places(system), 0) for end in ends])


def places_asked(system, entry_places):
    """All places that fit those of an entry, as they stand in their machines, the first machine's changing last."""
    parts = list(zip(entry_places, system[2]))
    return one_of_each([[place] if place is not None else list(machine[1]) for place, machine in parts])


def asks_at(ground, entry):
    """What is asked at an entry, tuples (places, step, n, known), by places that fit, then steps, then choices."""
    system, atoms, machine, memory = ground
    entry_places, stand, wishes = entry
    asks = []
    for places in places_asked(system, entry_places):
        for step in steps_at(system, places):
            for n, choice in enumerate(machine[0][stand]):
                known = known_by(system, atoms, choice[0], places, wishes, step)
                if known is not None:
                    asks.append((places, step, n, known))
    return asks


def lots_of(system, machine, step, kept):
    """The lots of a choice's kept ones, and, behind all of these, that of the step's deed where it is fair."""
    return kept + tuple([machine[1] + k for k, deed in enumerate(system[3]) if deed == step[0]])


def ties_asked(ground, entries, number, fans, ask):
    """The ties of what is asked at the entry with this number, none where it is barred; None where it isn't so."""
    system, atoms, machine, memory = ground
    places, step, n, known = ask
    if not memory.is_possible(known):
        return []
    if (step, n) not in fans:
        return None
    asks, stand, kept = machine[0][entries[number][1]][n]
    sets = set_by(system, step)
    behind = places_behind(system, places, step)
    ends = ends_of(fans[(step, n)], known, sets)
    if not all([is_end_so(memory, entries, end, sets, behind, stand) for end in ends]):
        return None
    lots = lots_of(system, machine, step, kept)
    return [(number, to, lots, there, sets) for to, there in ends if to is not None]


def fans_of(leads):
    """The fans of an entry's leads, by step and n."""
    return {(step, n): fan for step, n, fan in leads}


def looked_at_leads(ground, paper):
    """The first ask of a paper's leads that isn't so, or None; and all ties ahead of it."""
    entries, begin, leads, why = paper
    ties = []
    for number, entry in enumerate(entries):
        fans = fans_of(leads[number])
        for ask in asks_at(ground, entry):
            some = ties_asked(ground, entries, number, fans, ask)
            if some is None:
                return (("lead", number, ask[1], ask[2]), ties)
            ties.extend(some)
    return (None, ties)


def is_why_by(ground, paper, ties):
    """Whether the why of a paper is one of all its entries and ties."""
    system, atoms, machine, memory = ground
    entries = list(range(len(paper[0])))
    return is_ranked_why(memory, system[0], entries, ties, machine[1] + len(system[3]), paper[3])


def look_at_joined(system, saying, thing):
    """None of a joined paper of the system and the saying; of anything else the first ask that isn't so."""
    look_at_saying(system, saying)
    ground = ground_of(system, saying)
    if not has_paper_form(ground, thing):
        return ("form",)
    if not is_begin_so(ground, thing):
        return ("begin",)
    wrong, ties = looked_at_leads(ground, thing)
    if wrong is None and not is_why_by(ground, thing, ties):
        return ("why",)
    return wrong


def is_joined(system, saying, thing):
    """Whether anything is a joined paper of the system and the saying that is let by."""
    return look_at_joined(system, saying, thing) is None


def is_asked_so(system, saying, paper, entry, step, n):
    """Whether what is asked at an entry of a paper, for a step and choice n, is so for all places that fit."""
    ground = ground_of(system, saying)
    fans = fans_of(paper[2][entry])
    asks = [ask for ask in asks_at(ground, paper[0][entry]) if (ask[1], ask[2]) == (step, n)]
    return all([ties_asked(ground, paper[0], entry, fans, ask) is not None for ask in asks])


def is_why_so(system, saying, paper):
    """Whether all leads of a paper, and its why, are so."""
    ground = ground_of(system, saying)
    wrong, ties = looked_at_leads(ground, paper)
    return wrong is None and is_why_by(ground, paper, ties)
