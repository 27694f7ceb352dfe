"""Systems that several tests need: some by hand, some by chance, and systems called otherwise."""

from tests.samples import above, just, least, line, some_wishes

# A box that is counted down and read anew, by one machine, while another one looks on.
COUNT = ("count", ("low", "high"), (
    ("low", "down", (least(-1, x=1),), (("x", line(-1, x=1)),), "low"),
    ("low", "ask", (), (("x", None), ("y", line(0, x=1))), "high"),
    ("high", "down", (above(0, y=1), least(-2, x=1)), (("x", line(0, x=1, y=-1)), ("y", line(0, x=1))), "low"),
    ("high", "down", (above(0, y=1), least(-2, x=1)), (("x", line(0, x=1, y=-1)), ("y", line(0, x=1))), "low"),
))
LOOK = ("look", ("off", "on"), (
    ("off", "see", (just(0, z=1),), (("z", None),), "on"),
    ("on", "down", (), (("z", line(1, z=1)),), "on"),
    ("off", "down", (least(5, z=1),), (), "off"),
    ("off", "down", (least(6, z=1),), (), "on"),
))
IDLE = ("idle", ("here",), ())
SYSTEM = (("x", "y", "z"), (least(0, x=1), just(0, z=1)), (COUNT, LOOK, IDLE), ("ask", "down"))
FIRST = {"x": (3, 1), "y": (1, 2), "z": (0, 1)}
BARE = ((), (), (IDLE,), ())


def with_part(system, at, part):
    """The system, or any tuple, with another part."""
    return system[:at] + (part,) + system[at + 1:]


def with_machine(system, at, machine):
    """The system with another machine."""
    return with_part(system, 2, with_part(system[2], at, machine))


def some_row(chance, boxes, places, deeds):
    """A row by chance."""
    wishes = tuple(some_wishes(chance, chance.randint(0, 2), list(boxes), most=3))
    sets = tuple((box, chance.choice((None, line(1, **{other: 1 for other in boxes[:1]}), line(2))))
                 for box in boxes if chance.random() < 0.3)
    return (chance.choice(places), chance.choice(deeds), wishes, sets, chance.choice(places))


def without_double_sets(machines):
    """The machines, with nothing set by rows that set what another machine's row of the deed sets."""
    taken, come_to = set(), []
    for name, places, rows in machines:
        rows = tuple(row if all((row[1], box) not in taken for box, one in row[3]) else with_part(row, 3, ())
                     for row in rows)
        taken |= {(row[1], box) for row in rows for box, one in row[3]}
        come_to.append((name, places, rows))
    return tuple(come_to)


def some_system(chance):
    """A system by chance."""
    boxes = tuple(sorted(chance.sample(("x", "y", "z", "box"), chance.randint(0, 4))))
    deeds = ("go", "come", "stay", "turn")[:chance.randint(1, 4)]
    machines = []
    for name in chance.sample(("one", "two", "three", "four"), chance.randint(1, 4)):
        places = tuple(chance.sample(("a", "b", "c", "d", "e", "f"), chance.randint(1, 3)))
        rows = [some_row(chance, boxes, places, deeds) for _ in range(chance.randint(0, 6))]
        if rows and chance.random() < 0.3:
            rows.append(rows[0])
        machines.append((name, places, tuple(rows)))
    known = sorted({row[1] for machine in machines for row in machine[2]})
    fair = tuple(deed for deed in known if chance.random() < 0.4)
    return (boxes, tuple(some_wishes(chance, 2, list(boxes))), without_double_sets(machines), fair)


def called(name):
    """Another name for each name, in another order."""
    return "".join(chr(219 - ord(sign)) for sign in name)


def line_called(one):
    """A line with its names called otherwise."""
    return None if one is None else (one[0], tuple(sorted((called(name), by) for name, by in one[1])))


def wishes_called(wishes):
    """Wishes with their names called otherwise."""
    return tuple((word, line_called(one)) for word, one in wishes)


def sets_called(sets):
    """What is set, with its names called otherwise."""
    return tuple(sorted(((called(box), line_called(one)) for box, one in sets), key=lambda pair: pair[0]))


def row_called(row):
    """A row with its names called otherwise."""
    return (called(row[0]), called(row[1]), wishes_called(row[2]), sets_called(row[3]), called(row[4]))


def system_called(system, order):
    """The system with its names called otherwise, its machines in another order."""
    boxes, begins, machines, fair = system
    others = tuple((called(machines[at][0]), tuple(called(place) for place in machines[at][1]),
                    tuple(row_called(row) for row in machines[at][2])) for at in order)
    return (tuple(sorted(map(called, boxes))), wishes_called(begins), others, tuple(sorted(map(called, fair))))


def saying_called(saying):
    """A saying with its names called otherwise."""
    if saying[0] in ("place", "deed"):
        return saying[:1] + tuple("rest" if name == "rest" else called(name) for name in saying[1:])
    if saying[0] == "wish":
        return ("wish", wishes_called((saying[1],))[0])
    return saying[:1] + tuple(saying_called(half) for half in saying[1:])
