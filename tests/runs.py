"""Runs that end in a drifting round, gone lap by lap by fractions, and such runs by chance."""

from fractions import Fraction

from tests.machines import some_system, with_part
from tests.samples import as_fraction, as_share, is_granted, least, line, worth_of


def rest_of(system):
    """A move that rests."""
    return (("rest", (None,) * len(system[2])), (), ())


def move(deed, *rows, reads=(), drifts=None):
    """A step with its reads and drifts, told as pairs of a box and a whole number or a fraction."""
    drifts = tuple((box, 0) for box, by in reads) if drifts is None else drifts
    return ((deed, tuple(rows)), pairs(reads), pairs(drifts))


def pairs(some):
    return tuple((box, as_share(by)) for box, by in some)


def moments(system, run, laps):
    """All moments (places, numbers, step, whether the step can be done) of a run gone on for so many laps.

    Reckoned here by fractions; behind them come the places and numbers of each lap's begin, and of the last one's end.
    """
    places = tuple(machine[1][0] for machine in system[2])
    numbers = {box: by for box, by in run[0]}
    told, begins = [], []
    rows = [(one, 0) for one in run[1]]
    for lap in range(laps):
        rows.extend((one, lap) for one in run[2])
    for at, ((step, reads, drifts), lap) in enumerate(rows):
        if at >= len(run[1]) and (at - len(run[1])) % len(run[2]) == 0:
            begins.append((places, dict(numbers)))
        done = [(machine[2][number], number) for machine, number in zip(system[2], step[1]) if number is not None]
        stands = all(number is None or machine[2][number][0] == place
                     for machine, place, number in zip(system[2], places, step[1]))
        granted = all(is_granted(wish, numbers) for row, number in done for wish in row[2])
        told.append((places, numbers, step, stands and granted))
        more = {box: as_fraction(by) + lap * as_fraction(dict(drifts)[box]) for box, by in reads}
        behind = dict(numbers)
        for row, number in done:
            for box, line in row[3]:
                behind[box] = as_share(more[box] if line is None else worth_of(line, numbers))
        numbers = behind
        places = tuple(place if number is None else machine[2][number][4]
                       for machine, place, number in zip(system[2], places, step[1]))
    return told, begins + [(places, numbers)]


def is_run_by_laps(system, run, laps):
    """Whether a run by its form is a real one, as far as so many laps tell."""
    told, begins = moments(system, run, laps)
    if not all(is_granted(wish, dict(run[0])) for wish in system[1]):
        return False
    if any(drift != (0, 1) for step, reads, drifts in run[1] for box, drift in drifts):
        return False
    if not all(can for places, numbers, step, can in told):
        return False
    if any(places != begins[0][0] for places, numbers in begins):
        return False
    grown = [{box: as_fraction(later[box]) - as_fraction(here[box]) for box in here}
             for (_, here), (_, later) in zip(begins, begins[1:])]
    return all(one == grown[0] for one in grown)


def letter_at(system, atoms, places, numbers, step):
    """The letter of a moment, reckoned here."""
    names = [machine[0] for machine in system[2]]
    truths = []
    for atom in atoms:
        if atom[0] == "place":
            truths.append(places[names.index(atom[1])] == atom[2])
        else:
            truths.append(step[0] == atom[1] if atom[0] == "deed" else is_granted(atom[1], numbers))
    return tuple(truths)


def letters_by_laps(system, run, atoms, laps):
    """The letters of the stem and of so many laps."""
    return [letter_at(system, atoms, places, numbers, step)
            for places, numbers, step, can in moments(system, run, laps)[0]]


def some_drifting_row(chance, boxes, places, deeds):
    """A row by chance, by which numbers may drift."""
    def some_line():
        parts = {chance.choice(boxes): 1} if chance.random() < 0.8 else {}
        return (as_share(chance.choice((0, 1, -1, 2, Fraction(1, 2)))),
                tuple(sorted((name, as_share(by)) for name, by in parts.items())))
    sets = tuple((box, None if chance.random() < 0.25 else some_line()) for box in boxes if chance.random() < 0.6)
    wishes = tuple((chance.choice(("least", "above", "least", "just")), some_line())
                   for _ in range(chance.choice((0, 0, 1))))
    return (chance.choice(places), chance.choice(deeds), wishes, sets, chance.choice(places))


def some_drifting_system(chance):
    """A small system by chance, with boxes that may drift."""
    boxes = ("x", "y")[:chance.randint(1, 2)]
    places = ("a", "b")[:chance.randint(1, 2)]
    rows = tuple(some_drifting_row(chance, boxes, places, ("go", "come")) for _ in range(chance.randint(2, 5)))
    fair = tuple(sorted({row[1] for row in rows if chance.random() < 0.3}))
    begins = tuple(("least", (as_share(2), ((box, (1, 1)),))) for box in boxes if chance.random() < 0.3)
    return (boxes, begins, (("m", places, rows),), fair)


def some_moves(chance, system, places, many, is_lap):
    """Moves by chance from places, and the places behind them."""
    told = []
    for _ in range(many):
        steps = [("rest", (None,))] + [(row[1], (number,)) for number, row in enumerate(system[2][0][2])
                                       if row[0] == places[0]] * 3
        step = chance.choice(steps)
        number = step[1][0]
        row = None if number is None else system[2][0][2][number]
        boxes = [box for box, line in row[3] if line is None] if row else []
        reads = tuple((box, as_share(chance.randint(-2, 4))) for box in boxes)
        drifts = tuple((box, as_share(chance.choice((0, 0, 1, -1)) if is_lap else 0)) for box in boxes)
        told.append((step, reads, drifts))
        places = (row[4],) if row else places
    return told, places


def some_run(chance, system):
    """A run by its form, by chance, of a system of one machine."""
    numbers = tuple((box, as_share(chance.randint(-2, 5))) for box in system[0])
    stem, places = some_moves(chance, system, (system[2][0][1][0],), chance.randint(0, 2), False)
    for _ in range(20):
        lap, end = some_moves(chance, system, places, chance.randint(1, 3), True)
        if end == places:
            break
    return (numbers, stem, lap)


def some_real_runs(chance, many, system_of=some_drifting_system):
    """So many systems, each with a real run of it, by chance."""
    told = []
    while len(told) < many:
        system = system_of(chance)
        for _ in range(10):
            run = some_run(chance, system)
            if is_run_by_laps(system, run, 60):
                told.append((system, run))
                break
    return told


def some_plain_run(chance):
    """A system of several machines by chance, and a run of it whose lap rests, behind a walk."""
    system = with_part(with_part(some_system(chance), 1, ()), 3, ())
    numbers = tuple((box, as_share(chance.randint(-5, 5))) for box in system[0])
    return system, (numbers, [], [rest_of(system)])


def some_counters(chance):
    """A system of boxes that are counted down, by chance, and sometimes set or read anew."""
    boxes, places = ("x", "y"), ("a", "b")[:chance.randint(1, 2)]
    rows = []
    for _ in range(chance.randint(1, 4)):
        box = chance.choice(boxes)
        sets = [(box, line(-chance.choice((1, 2, 3)), **{box: 1}))]
        if chance.random() < 0.3:
            sets.append((boxes[1 - boxes.index(box)], chance.choice((None, line(1, x=1), line(4), line(0, y=2)))))
        rows.append((chance.choice(places), chance.choice(("go", "come")), (least(-chance.randint(0, 2), **{box: 1}),),
                     tuple(sorted(sets, key=lambda pair: pair[0])), chance.choice(places)))
    begins = tuple(least(chance.randint(0, 9), **{box: -1}) for box in boxes if chance.random() < 0.4)
    fair = tuple(sorted({row[1] for row in rows if chance.random() < 0.3}))
    return (boxes, begins, (("m", places, tuple(rows)),), fair)
