"""Whys: that no lap of ties among entries has all lots; and laps that have them."""

from glassladder.lines import is_rising
from glassladder.shares import is_below, is_whole
from glassladder.systems import is_tuple_of

NONE = ("none",)


def ties_among(entries, ties):
    """The ties that lead from one of the entries to one of them."""
    here = set(entries)
    return [tie for tie in ties if tie[0] in here and tie[1] in here]


def is_lot_why(ties, many, thing):
    """Whether anything tells a lot in which no tie is."""
    if not is_tuple_of(thing, 2, 2) or thing[0] != "lot" or not is_below(thing[1], many):
        return False
    return not any([thing[1] in tie[2] for tie in ties])


def is_part(thing):
    """Whether anything is a tuple of a rising tuple of numbers, and whatever stands as its why."""
    if not is_tuple_of(thing, 2, 2) or not isinstance(thing[0], tuple):
        return False
    return all([is_whole(entry) for entry in thing[0]]) and is_rising(thing[0])


def parted(entries, ties, thing):
    """The parts that anything tells, as a list of tuples (entries, ties among them, why); None where it tells none."""
    if not is_tuple_of(thing, 2, 2) or thing[0] != "parts" or not isinstance(thing[1], tuple):
        return None
    parts = thing[1]
    if not all([is_part(part) for part in parts]):
        return None
    if sorted([entry for part in parts for entry in part[0]]) != sorted(entries):
        return None
    numbers = {entry: number for number, part in enumerate(parts) for entry in part[0]}
    inner = [[] for part in parts]
    for tie in ties:
        start, end = numbers[tie[0]], numbers[tie[1]]
        if start > end:
            return None
        if start == end:
            inner[start].append(tie)
    return [(list(part[0]), some, part[1]) for part, some in zip(parts, inner)]


def is_why_of(entries, ties, many, thing):
    """Whether anything is a why without ranks of entries, and of ties that are all among them."""
    if thing == NONE:
        return not ties
    if is_lot_why(ties, many, thing):
        return True
    parts = parted(entries, ties, thing)
    return parts is not None and all([is_why_of(some, inner, many, why) for some, inner, why in parts])


def is_why(entries, ties, many, thing):
    """Whether anything is a why without ranks of the entries and the ties among them."""
    return is_why_of(entries, ties_among(entries, ties), many, thing)


def ends_by_starts(entries, pairs):
    """A dict from each entry to a list of the ends of the pairs that start there."""
    ends = {entry: [] for entry in entries}
    for start, end in pairs:
        ends[start].append(end)
    return ends


def all_from(entry, ends, seen):
    """The entries come to from an entry that weren't seen, each behind all that are come to by it alone."""
    order = []
    seen[entry] = True
    path = [(entry, 0)]
    while path:
        here, at = path.pop()
        if at == len(ends[here]):
            order.append(here)
        else:
            path.append((here, at + 1))
            there = ends[here][at]
            if there not in seen:
                seen[there] = True
                path.append((there, 0))
    return order


def pieces(entries, ties):
    """The greatest lots of entries that lead to one another, none ahead of one that leads to it."""
    pairs = [(tie[0], tie[1]) for tie in ties_among(entries, ties)]
    onward = ends_by_starts(entries, pairs)
    seen = {}
    order = []
    for entry in entries:
        if entry not in seen:
            order.extend(all_from(entry, onward, seen))
    # Gone backward, the last one of the order leads to nothing but its own piece; then so does the next one left.
    backward = ends_by_starts(entries, [(end, start) for start, end in pairs])
    seen = {}
    told = []
    for entry in reversed(order):
        if entry not in seen:
            told.append(sorted(all_from(entry, backward, seen)))
    return told


def numbers_by_starts(entries, ties, numbers):
    """A dict from each entry to a list of the numbers of those of the ties that start there."""
    return ends_by_starts(entries, [(ties[number][0], number) for number in numbers])


def come_to_by(begins, ties, onward):
    """The entries come to from begins, nearest first: a dict to the number of the tie by which, None of begins."""
    came_by = {entry: None for entry in begins}
    queue = list(came_by)
    at = 0
    while at < len(queue):
        here = queue[at]
        for number in onward[here]:
            there = ties[number][1]
            if there not in came_by:
                came_by[there] = number
                queue.append(there)
        at += 1
    return came_by


def row_back(came_by, ties, entry):
    """The row of ties, by their numbers, by which an entry was come to."""
    row = []
    number = came_by[entry]
    while number is not None:
        row.append(number)
        number = came_by[ties[number][0]]
    return row[::-1]


def row_to(start, end, ties, onward):
    """The shortest row of ties, perhaps none, from an entry to another one."""
    return row_back(come_to_by([start], ties, onward), ties, end)


def shortest_lap(start, ties, onward):
    """The shortest row of one or more ties from an entry back to it."""
    laps = [[number] + row_to(ties[number][1], start, ties, onward) for number in onward[start]]
    return min(laps, key=len)


def lap_with_all(ties, inner, many, onward):
    """A lap by ties of a piece, with all of one or more lots among them: for each lot the first tie that has it."""
    lap = []
    for lot in range(many):
        if not any([lot in ties[number][2] for number in lap]):
            taken = [number for number in inner if lot in ties[number][2]][0]
            between = row_to(ties[lap[-1]][1], ties[taken][0], ties, onward) if lap else []
            lap.extend(between + [taken])
    return lap + row_to(ties[lap[-1]][1], ties[lap[0]][0], ties, onward)


def first_come_to(came_by, entries):
    """That one of the entries which is come to ahead of the others."""
    some = set(entries)
    return [entry for entry in came_by if entry in some][0]


def first_lacking(ties, inner, many):
    """The first lot in which none of the ties with these numbers is, or None."""
    had = {lot: True for number in inner for lot in ties[number][2]}
    for lot in range(many):
        if lot not in had:
            return lot
    return None


def inner_numbers(ties, numbers, parts):
    """For each part those of the numbers of ties that lead from it to itself."""
    homes = {entry: at for at, part in enumerate(parts) for entry in part}
    inner = [[] for part in parts]
    for number in numbers:
        home = homes.get(ties[number][0])
        if home is not None and home == homes.get(ties[number][1]):
            inner[home].append(number)
    return inner


def told_lap(came_by, ties, part, inner, many):
    """A lap of a part that has ties of all lots, and a stem that leads to it."""
    onward = numbers_by_starts(part, ties, inner)
    if many:
        lap = lap_with_all(ties, inner, many, onward)
    else:
        lap = shortest_lap(first_come_to(came_by, part), ties, onward)
    # It may begin at any of its entries: so the stem is as short as can be.
    starts = [ties[number][0] for number in lap]
    start = first_come_to(came_by, starts)
    at = starts.index(start)
    return ("lap", row_back(came_by, ties, start), lap[at:] + lap[:at])


def sought(count, begins, ties, many):
    """("lap", stem, lap), numbers of ties, with all lots in the lap; or ("why", why) of all entries come to."""
    numbers = list(range(len(ties)))
    came_by = come_to_by(begins, ties, numbers_by_starts(list(range(count)), ties, numbers))
    parts = pieces(sorted(list(came_by)), ties)
    told = []
    for part, inner in zip(parts, inner_numbers(ties, numbers, parts)):
        lot = first_lacking(ties, inner, many)
        if inner and lot is None:
            return told_lap(came_by, ties, part, inner, many)
        told.append((tuple(part), ("lot", lot) if inner else NONE))
    return ("why", ("parts", tuple(told)))
