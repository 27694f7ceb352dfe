"""What a ladder does besides its rounds: rungs made, papers joined up, paths led up, what is learnt of a lap."""

from glassladder.granting import contraries
from glassladder.joined import wishes_asked
from glassladder.joining import joined_up
from glassladder.leading import led_back_by
from glassladder.lines import line_plus, line_times, names_of
from glassladder.moves import places_behind, sets_done, steps_at_of, wishes_done
from glassladder.rungs import led_down, led_places, led_step
from glassladder.shares import over
from glassladder.systems import REST, first_places
from glassladder.through import cut_by
from glassladder.together import together
from glassladder.unasked import unasked


def rungs_made(system, saying, words):
    """The rungs of these words, one behind the other; and the saying above each of them and at the lowest."""
    rungs = []
    sayings = [saying]
    for word in words:
        rung = unasked(system, sayings[-1]) if word == "unasked" else together(system, sayings[-1])
        rungs.append(rung)
        sayings.append(led_down(rung, sayings[-1]))
        system = rung[2]
    return (rungs, sayings)


def paper_up(rungs, sayings, paper):
    """A paper of the lowest system joined up all rungs."""
    for rung, saying in list(zip(rungs, sayings))[::-1]:
        paper = joined_up(rung, saying, paper)
    return paper


def is_like_step(system, places, one, other):
    """Whether two steps from places have one deed, the very wishes and sets, and the same places behind."""
    if one[0] != other[0] or wishes_done(system, one) != wishes_done(system, other):
        return False
    if sets_done(system, one) != sets_done(system, other):
        return False
    return places_behind(system, places, one) == places_behind(system, places, other)


def step_up(rung, places, step):
    """The first upper step from places that is led to a lower one, or to one just like it, or None."""
    word, upper, lower, meaning = rung
    if step[0] == REST:
        return (REST, tuple([None for machine in upper[2]]))
    below = led_places(rung, places)
    for other in steps_at_of(upper, places, step[0]):
        led = led_step(rung, other)
        if led == step or is_like_step(lower, below, led, step):
            return other
    return None


def moves_up(rung, places, moves):
    """The upper moves of lower ones, from places, and the places behind them; None where a step isn't led to."""
    told = []
    for step, asks in moves:
        other = step_up(rung, places, step)
        if other is None:
            return None
        told.append((other, asks))
        places = places_behind(rung[1], places, other)
    return (told, places)


def path_up(rung, path):
    """The upper path of a lower one, its lap as often as it takes till its places come again; or None."""
    stem, lap = path
    led = moves_up(rung, first_places(rung[1]), stem)
    if led is None:
        return None
    ahead, places = led
    laps = []
    seen = []
    while places not in seen:
        seen.append(places)
        led = moves_up(rung, places, lap)
        if led is None:
            return None
        moves, places = led
        laps.append(moves)
    at = seen.index(places)
    stem_up = ahead + [move for moves in laps[:at] for move in moves]
    return (stem_up, [move for moves in laps[at:] for move in moves])


def path_of(ground, found, told):
    """The path of a lap that was found in a table, its asks those of the ties' choices alone."""
    system, atoms, machine, memory = ground
    entries, ties = found[0], found[3]
    path = []
    for numbers in told[1:3]:
        some = [(ties[number][3], machine[0][entries[ties[number][0]][1]][ties[number][4]][0]) for number in numbers]
        path.append([(step, tuple(wishes_asked(atoms, asks))) for step, asks in some])
    return (path[0], path[1])


def run_up(rungs, path, run):
    """The run at the top of a path that a run goes at the lowest; None where it can't be led up."""
    for rung in rungs[::-1]:
        path = path_up(rung, path)
        if path is None:
            return None
        told = led_back_by(rung[1], path)
        if told[0] == "barred":
            return None
        run = told[1]
    return run


def scaled(wish):
    """A wish with a name, its line times a share above nought such that its first name's share is 1 or -1."""
    word, line = wish
    top, bottom = line[1][0][1]
    return (word, line_times(line, over((1, 1), (abs(top), bottom))))


def wishes_more(wishes, between):
    """The wishes between that have a name, scaled, but such as are there, or whose contrary is."""
    told = []
    for some in between:
        for wish in some:
            if names_of(wish[1]):
                one = scaled(wish)
                had = wishes + told
                if one not in had and contraries(one)[0] not in had:
                    told.append(one)
    return told


def lines_of_lap(system, lap):
    """The lines of the wishes along a path's lap that have names, each once; behind them their sums by twos."""
    lines = []
    for step, asks in lap:
        for word, line in wishes_done(system, step) + list(asks):
            if names_of(line) and line not in lines:
                lines.append(line)
    sums = [line_plus(one, other) for at, one in enumerate(lines) for other in lines[at + 1:]]
    return lines + [line for line in sums if names_of(line)]


def rank_of_lap(search, told, lines):
    """The first line that isn't had and is a rank along the ties of a lap's piece, one of the lap's falling."""
    ranks = search[3]
    word, stem, lap, part, inner = told
    for line in lines:
        if line not in ranks:
            left = cut_by(search, part, inner, line)
            if left is not None and not all([number in left for number in lap]):
                return line
    return None


def paper_anew(paper):
    """A joined paper with new lists, or None."""
    if paper is None:
        return None
    entries, begin, leads, why = paper
    return (list(entries), begin, [list(some) for some in leads], why)


def run_anew(run):
    """A run with new lists, or None."""
    return None if run is None else (run[0], list(run[1]), list(run[2]))
