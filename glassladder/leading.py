"""Leading back: real runs that go a path, and wishes between the moments of a path that can't be gone."""

from glassladder.granting import put_all
from glassladder.lines import all_put, line_minus, line_plus, line_times
from glassladder.moves import boxes_read, is_step_of, places_behind, sets_done, stands_at, wishes_done
from glassladder.shares import NOUGHT, ONE
from glassladder.solving import solved
from glassladder.systems import first_places, look_at_system

NO_LINE = ((0, 1), ())


def line_named(name):
    """The line of a name alone."""
    return (NOUGHT, ((name, ONE),))


def read_name(box, moment):
    """What is read into a box at a moment, as a name that no box has."""
    return box + "'" + str(moment)


def drift_name(box, moment):
    """By how much more is read into a box at a moment in each further lap, as such a name."""
    return box + "''" + str(moment)


def places_along(system, places, moves):
    """The places behind moves (step, asks) from places; None where a step can't stand."""
    for step, asks in moves:
        if not is_step_of(system, step) or not stands_at(system, places, step):
            return None
        places = places_behind(system, places, step)
    return places


def lines_behind(system, lines, step, moment):
    """Lines of the boxes behind a step, by those ahead, dicts both."""
    behind = dict(lines)
    for box, line in sets_done(system, step):
        behind[box] = line_named(read_name(box, moment)) if line is None else all_put(line, lines)
    return behind


def lines_along(system, lines, moves, moment):
    """Lines of the boxes at all moves, the first one at this moment, and behind them."""
    told = [lines]
    for at, (step, asks) in enumerate(moves):
        told.append(lines_behind(system, told[-1], step, moment + at))
    return told


def drift_of(line, drifts):
    """By how much a line is more in each further lap, by lines for its boxes."""
    return all_put((NOUGHT, line[1]), drifts)


def drifts_along(system, drifts, moves, moment):
    """Lines of the boxes' drifts at all moves, the first one at this moment, and behind them."""
    told = [drifts]
    for at, (step, asks) in enumerate(moves):
        behind = dict(told[-1])
        for box, line in sets_done(system, step):
            behind[box] = line_named(drift_name(box, moment + at)) if line is None else drift_of(line, told[-1])
        told.append(behind)
    return told


def wishes_at(system, move):
    """The step's wishes and what is asked beside them."""
    step, asks = move
    return wishes_done(system, step) + list(asks)


def wishes_along(system, moves, lines):
    """All wishes of moves, told by the lines of the boxes there."""
    return [put_all(wish, here) for move, here in zip(moves, lines) for wish in wishes_at(system, move)]


def first_lines(system):
    """The lines of the boxes at first: their own names."""
    return {box: line_named(box) for box in system[0]}


def wishes_kept(system, lap, drifts):
    """Wishes by which what is granted in the first lap is granted in all laps."""
    parts = [(wish, here) for move, here in zip(lap, drifts) for wish in wishes_at(system, move)]
    return [("just" if word == "just" else "least", drift_of(line, here)) for (word, line), here in parts]


def wishes_of_path(system, stem, lap):
    """All that is asked of the numbers at first, reads and drifts, that the path can be gone for ever."""
    ahead = lines_along(system, first_lines(system), stem, 0)
    around = lines_along(system, ahead[-1], lap, len(stem))
    drift = {box: line_minus(around[-1][box], around[0][box]) for box in system[0]}
    drifts = drifts_along(system, drift, lap, len(stem))
    again = [("just", line_minus(drifts[-1][box], drift[box])) for box in system[0]]
    wishes = list(system[1]) + wishes_along(system, stem, ahead) + wishes_along(system, lap, around)
    return wishes + wishes_kept(system, lap, drifts) + again


def pairs_of(boxes, names, numbers):
    """A tuple of the boxes with the numbers of these names, nought where they can be anything."""
    return tuple([(box, numbers.get(name, NOUGHT)) for box, name in zip(boxes, names)])


def reads_by(boxes, moment, numbers):
    """What is read at a moment."""
    return pairs_of(boxes, [read_name(box, moment) for box in boxes], numbers)


def moves_by(system, moves, moment, numbers):
    """The moves of a run by which a path is gone from this moment on."""
    told = []
    for at, (step, asks) in enumerate(moves):
        boxes = boxes_read(system, step)
        drifts = pairs_of(boxes, [drift_name(box, moment + at) for box in boxes], numbers)
        told.append((step, reads_by(boxes, moment + at, numbers), drifts))
    return told


def led_back_by(system, path):
    """What is told of a path of what is known to be a system."""
    stem, lap = path
    places = places_along(system, first_places(system), stem)
    if not lap or places is None or places_along(system, places, lap) != places:
        return ("barred",)
    word, numbers = solved(wishes_of_path(system, stem, lap))
    if word == "barred":
        return ("barred",)
    first = pairs_of(system[0], system[0], numbers)
    # Drifts of a stem's reads are asked nowhere: so they are nought.
    return ("run", (first, moves_by(system, stem, 0, numbers), moves_by(system, lap, len(stem), numbers)))


def led_back(system, path):
    """("run", run) of a real run that goes the path and grants its asks in all laps, or ("barred",)."""
    look_at_system(system)
    return led_back_by(system, path)


def lines_ahead(system, moves, shares):
    """For each moment and the end what comes together from there on, by shares for the wishes of all moves.

    Each line is over the boxes at its moment. What is read cancels out, as nothing else can bar.
    """
    together = NO_LINE
    told = [together]
    rest = list(shares)
    for move in moves[::-1]:
        sets = {box: line for box, line in sets_done(system, move[0]) if line is not None}
        together = all_put(together, sets)
        wishes = wishes_at(system, move)
        here = rest[len(rest) - len(wishes):]
        rest = rest[:len(rest) - len(wishes)]
        for (word, line), by in zip(wishes, here):
            together = line_plus(together, line_times(line, by))
        told.append(together)
    return told[::-1]


def is_above_by(wishes, shares):
    """Whether some `above` has a share above nought."""
    return any([word == "above" and by[0] > 0 for (word, line), by in zip(wishes, shares)])


def wishes_between(system, moves, shares):
    """A tuple of a wish for each moment and the end, by the shares that bar begins and all wishes of moves."""
    begins = list(system[1])
    lots = [begins] + [wishes_at(system, move) for move in moves]
    ahead = lines_ahead(system, moves, shares[len(begins):])
    # What comes together up to a moment is, on any row of numbers, the whole less what comes from there on.
    whole = ahead[0]
    for (word, line), by in zip(begins, shares):
        whole = line_plus(whole, line_times(line, by))
    told = []
    at = 0
    is_above = False
    for lot, line in zip(lots, ahead):
        is_above = is_above or is_above_by(lot, shares[at:at + len(lot)])
        at += len(lot)
        told.append((("above" if is_above else "least", line_minus(whole, line)),))
    return told


def led_begin_by(system, steps):
    """What is told of a beginning of a path of what is known to be a system."""
    lines = lines_along(system, first_lines(system), steps, 0)
    word, found = solved(list(system[1]) + wishes_along(system, steps, lines))
    if word == "barred":
        return ("between", wishes_between(system, steps, found))
    numbers = {box: found.get(box, NOUGHT) for box in system[0]}
    reads = [reads_by(boxes_read(system, step), at, found) for at, (step, asks) in enumerate(steps)]
    return ("numbers", numbers, reads)


def led_begin(system, steps):
    """("numbers", numbers, reads) by which steps can be gone, or ("between", wishes) by which they are barred."""
    look_at_system(system)
    return led_begin_by(system, steps)
