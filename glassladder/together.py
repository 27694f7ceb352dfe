"""A rung that puts like places of a machine together."""

from glassladder.sayings import atoms_of, look_at_saying


def rows_by_lots(machine, place, lots):
    """The rows from a place, without it, and with the lots of the places to which they lead."""
    return [(deed, wishes, sets, lots[to]) for ahead, deed, wishes, sets, to in machine[2] if ahead == place]


def are_alike(some, others):
    """Whether each of some rows is among the others, and the other way about."""
    return all([row in others for row in some]) and all([row in some for row in others])


def parted_lots(machine, lots):
    """The lots, dicts from places to lots' first places, parted by how the rows from there are."""
    come_to = {}
    for place in machine[1]:
        rows = rows_by_lots(machine, place, lots)
        like = [
            other for other in come_to
            if lots[other] == lots[place] and are_alike(rows, rows_by_lots(machine, other, lots))
        ]
        come_to[place] = come_to[like[0]] if like else place
    return come_to


def lots_of_places(machine, named):
    """A dict from a machine's places to the first places of their lots, named ones each in a lot of its own."""
    others = [place for place in machine[1] if place not in named]
    lots = {place: place if place in named else others[0] for place in machine[1]}
    parted = parted_lots(machine, lots)
    while parted != lots:
        lots = parted
        parted = parted_lots(machine, lots)
    return lots


def machine_by(machine, lots):
    """The machine with lots in the stead of its places."""
    name, places, rows = machine
    told = []
    for ahead, deed, wishes, sets, to in rows:
        row = (ahead, deed, wishes, sets, lots[to])
        if lots[ahead] == ahead and row not in told:
            told.append(row)
    return (name, tuple([place for place in places if lots[place] == place]), tuple(told))


def together(system, saying):
    """A rung of the word `same` to the system in which like places are one."""
    look_at_saying(system, saying)
    boxes, begins, machines, fair = system
    atoms = [atom for atom in atoms_of(saying) if atom[0] == "place"]
    lots = [
        lots_of_places(machine, [place for word, name, place in atoms if name == machine[0]]) for machine in machines
    ]
    lower = tuple([machine_by(machine, some) for machine, some in zip(machines, lots)])
    meaning = tuple([(n, tuple(some.items())) for n, some in enumerate(lots)])
    return ("same", system, (boxes, begins, lower, fair), meaning)
