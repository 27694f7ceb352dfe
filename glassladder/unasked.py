"""A rung that leaves out the machines and boxes that nobody asks."""

from glassladder.lines import names_of
from glassladder.sayings import atoms_of, look_at_saying
from glassladder.systems import REST, deeds_in


def is_machine_asked(system, atoms, machine):
    """Whether a machine is asked by a deed that others know, that is fair or that an atom names, or by a place."""
    others = [other for other in system[2] if other != machine]
    deeds = deeds_in(others) + list(system[3]) + [atom[1] for atom in atoms if atom[0] == "deed"]
    if REST in deeds or any([deed in deeds for deed in deeds_in([machine])]):
        return True
    return any([atom[0] == "place" and atom[1] == machine[0] for atom in atoms])


def boxes_asked(atoms):
    """The boxes that wishes of atoms name."""
    return [name for atom in atoms if atom[0] == "wish" for name in names_of(atom[1][1])]


def sets_one_of(machine, boxes):
    """Whether a row of a machine sets one of the boxes."""
    return any([box in boxes for row in machine[2] for box, line in row[3]])


def boxes_named_by(machine, boxes):
    """The boxes that wishes of a machine's rows name, and the lines by which they set some of the boxes."""
    named = [name for row in machine[2] for word, line in row[2] for name in names_of(line)]
    lines = [line for row in machine[2] for box, line in row[3] if box in boxes and line is not None]
    return named + [name for line in lines for name in names_of(line)]


def grown(system, kept):
    """The names of machines and the boxes that are kept, and all that are kept where these are."""
    names, boxes = kept
    machines = [machine for machine in system[2] if machine[0] in names or sets_one_of(machine, boxes)]
    named = [name for machine in machines for name in boxes_named_by(machine, boxes)]
    return ([machine[0] for machine in machines], [box for box in system[0] if box in boxes or box in named])


def closed(system, kept):
    """The fewest machines' names and boxes that are kept where these are."""
    more = grown(system, kept)
    while more != kept:
        kept = more
        more = grown(system, kept)
    return kept


def kept_of(system, saying):
    """The names of the machines, and the boxes, that are kept."""
    atoms = atoms_of(saying)
    names = [machine[0] for machine in system[2] if is_machine_asked(system, atoms, machine)]
    boxes = boxes_asked(atoms)
    kept = closed(system, (names, boxes))
    if kept[0]:
        return kept
    return closed(system, ([system[2][0][0]], boxes))


def with_sets_of(row, boxes):
    """A row that sets nothing but some of the boxes."""
    ahead, deed, wishes, sets, behind = row
    return (ahead, deed, wishes, tuple([(box, line) for box, line in sets if box in boxes]), behind)


def lower_by(system, names, boxes):
    """The system with some of its machines and boxes alone."""
    begins = [wish for wish in system[1] if all([name in boxes for name in names_of(wish[1])])]
    machines = [
        (name, places, tuple([with_sets_of(row, boxes) for row in rows]))
        for name, places, rows in system[2] if name in names
    ]
    return (tuple(boxes), tuple(begins), tuple(machines), system[3])


def unasked(system, saying):
    """A rung of the word `more` to the system without machines and boxes that nobody asks."""
    look_at_saying(system, saying)
    names, boxes = kept_of(system, saying)
    meaning = [
        (names.index(name), tuple([(place, place) for place in places])) if name in names else None
        for name, places, rows in system[2]
    ]
    return ("more", system, lower_by(system, names, boxes), tuple(meaning))
