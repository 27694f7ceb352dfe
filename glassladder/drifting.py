"""Runs that end in a drifting round: a lap gone without end, by which numbers are more by the same each time."""

from glassladder.errors import NoRound, TooMany
from glassladder.granting import granted
from glassladder.lines import worth
from glassladder.moves import (
    boxes_read, first_barred, is_step_of, numbers_behind, places_behind, stands_at, wishes_done,
)
from glassladder.sayings import is_so_at
from glassladder.shares import NOUGHT, is_share, minus, over, plus, times
from glassladder.systems import first_places, is_tuple_of, look_at_system

MOST_LAPS = 1000


def is_pair_of(box, thing):
    """Whether anything is a tuple of the box and a share."""
    return is_tuple_of(thing, 2, 2) and thing[0] == box and is_share(thing[1])


def are_pairs_of(boxes, thing):
    """Whether anything is a tuple with a pair for each box, in order."""
    if not is_tuple_of(thing, len(boxes), len(boxes)):
        return False
    return all([is_pair_of(box, pair) for box, pair in zip(boxes, thing)])


def is_move(system, thing):
    """Whether anything is a step with its reads and their drifts."""
    if not is_tuple_of(thing, 3, 3) or not is_step_of(system, thing[0]):
        return False
    boxes = boxes_read(system, thing[0])
    return are_pairs_of(boxes, thing[1]) and are_pairs_of(boxes, thing[2])


def has_run_form(system, thing):
    """Whether anything is by its form a run; steps may stand where they can't, and wishes may not be granted."""
    if not is_tuple_of(thing, 3, 3):
        return False
    numbers, stem, lap = thing
    if not are_pairs_of(system[0], numbers) or not isinstance(stem, list) or not isinstance(lap, list) or not lap:
        return False
    if not all([is_move(system, move) for move in stem + lap]):
        return False
    return all([drift == NOUGHT for step, reads, drifts in stem for box, drift in drifts])


def numbers_more(numbers, drifts, laps):
    """Numbers, more by so many times their drifts, dicts all."""
    return {box: plus(numbers[box], times(drifts[box], (laps, 1))) for box in numbers}


def stands_along(system, stand, moves, laps):
    """The stands (places, numbers) at all moves and behind them, so many laps later; None where one can't stand."""
    places, numbers = stand
    stands = [stand]
    for step, reads, drifts in moves:
        if not stands_at(system, places, step):
            return None
        numbers = numbers_behind(system, numbers, step, numbers_more(dict(reads), dict(drifts), laps))
        places = places_behind(system, places, step)
        stands.append((places, numbers))
    return stands


def numbers_less(numbers, other):
    """By how much numbers are more than other ones, dicts all."""
    return {box: minus(numbers[box], other[box]) for box in numbers}


def is_kept_up(wish, numbers, later):
    """Whether a wish that numbers grant is granted in all laps, by the numbers one lap later."""
    drift = minus(worth(wish[1], later), worth(wish[1], numbers))[0]
    return drift == 0 or drift > 0 and wish[0] != "just"


def are_granted(system, moves, stands):
    """Whether all wishes of moves are granted where they stand."""
    parts = list(zip(moves, stands))
    return all([first_barred(wishes_done(system, move[0]), numbers) is None for move, (places, numbers) in parts])


def are_kept_up(system, moves, stands, later):
    """Whether all wishes of moves, granted in the first lap, are granted in all laps."""
    parts = list(zip(moves, stands, later))
    return all([
        is_kept_up(wish, first[1], second[1]) for move, first, second in parts for wish in wishes_done(system, move[0])
    ])


def is_drifting(stands, later):
    """Whether the numbers are more by the same behind the first lap and the second one."""
    begin, end, behind = stands[0][1], stands[-1][1], later[-1][1]
    return numbers_less(end, begin) == numbers_less(behind, end)


def course_of(system, thing):
    """The stands along the stem, the first lap and the second one, of a real run; None of anything else."""
    if not has_run_form(system, thing):
        return None
    numbers, stem, lap = thing
    if first_barred(system[1], dict(numbers)) is not None:
        return None
    ahead = stands_along(system, (first_places(system), dict(numbers)), stem, 0)
    if ahead is None or not are_granted(system, stem, ahead):
        return None
    first = stands_along(system, ahead[-1], lap, 0)
    if first is None or first[-1][0] != first[0][0] or not are_granted(system, lap, first):
        return None
    second = stands_along(system, first[-1], lap, 1)
    if not is_drifting(first, second) or not are_kept_up(system, lap, first, second):
        return None
    return (ahead, first, second)


def is_run(system, thing):
    """Whether anything is a real run that ends in a drifting round."""
    look_at_system(system)
    return course_of(system, thing) is not None


def course_looked_at(system, run):
    """The stands along a real run; anything else is refused."""
    look_at_system(system)
    course = course_of(system, run)
    if course is None:
        raise NoRound("no real run that ends in a drifting round")
    return course


def counts(system, run):
    """Whether each deed of fair is in the lap of a real run."""
    course_looked_at(system, run)
    deeds = [step[0] for step, reads, drifts in run[2]]
    return all([deed in deeds for deed in system[3]])


def laps_till_kept(wish, numbers, later):
    """How many laps it takes, as few as can be, till a wish that is no `just` is as it is in all further ones."""
    first = worth(wish[1], numbers)
    drift = minus(worth(wish[1], later), first)
    if drift == NOUGHT:
        return 0
    # At so many laps, perhaps a share of one, the line comes to nought.
    top, bottom = over(minus(NOUGHT, first), drift)
    if (wish[0] == "above") == (drift[0] > 0):
        return max(0, top // bottom + 1)
    return max(0, -(-top // bottom))


def laps_till_all_kept(atoms, stands, later):
    """How many laps it takes, as few as can be, till no letter differs from lap to lap."""
    wishes = [atom[1] for atom in atoms if atom[0] == "wish"]
    moments = list(zip(stands[:-1], later))
    return max([0] + [laps_till_kept(wish, first[1], second[1]) for first, second in moments for wish in wishes])


def letter_of(system, atoms, step, places, numbers):
    """The letter of a moment."""
    truths = [
        granted(atom[1], numbers) if atom[0] == "wish" else is_so_at(system, atom, places, step) for atom in atoms
    ]
    return tuple(truths)


def letters_along(system, atoms, moves, stands):
    """The letters of moves where they stand."""
    return [letter_of(system, atoms, move[0], places, numbers) for move, (places, numbers) in zip(moves, stands)]


def stands_later(stands, later, laps):
    """The stands of a lap so many laps later, by those of the first and the second lap."""
    return [
        (first[0], numbers_more(first[1], numbers_less(second[1], first[1]), laps))
        for first, second in zip(stands, later)
    ]


def letters_of(system, run, atoms):
    """The row of letters of a real run by atoms, as few laps as can be in its stem."""
    ahead, first, second = course_looked_at(system, run)
    laps = laps_till_all_kept(atoms, first, second)
    if laps > MOST_LAPS:
        raise TooMany(laps)
    numbers, stem, lap = run
    letters = letters_along(system, atoms, stem, ahead)
    for many in range(laps):
        letters.extend(letters_along(system, atoms, lap, stands_later(first, second, many)))
    return (letters, letters_along(system, atoms, lap, stands_later(first, second, laps)))
