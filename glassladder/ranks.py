"""Whys with ranks: lines that never rise along ties, and that fall along some without going below nought."""

from glassladder.granting import contraries, granted
from glassladder.lines import all_put, line_minus, names_of
from glassladder.shares import NOUGHT, ONE
from glassladder.solving import witness_of
from glassladder.systems import is_line_over, is_tuple_of
from glassladder.whys import NONE, is_lot_why, parted


def is_granted_by(wish, numbers):
    """Whether numbers grant a wish, names that have none being nought."""
    return granted(wish, {name: numbers.get(name, NOUGHT) for name in names_of(wish[1])})


class Memory:
    """What was found of wishes, as the same ones are asked of again and again."""

    def __init__(self):
        # Numbers that grant the wishes, None where nothing does.
        self.witnesses = {}

    def witness(self, known):
        """Numbers, of which names may lack that can be nought, that grant all that is known, or None."""
        key = tuple(known)
        if key not in self.witnesses:
            ahead = self.witnesses.get(key[:-1])
            # Mostly a wish more is asked than was known, and often the numbers found for those grant it, too.
            if ahead is not None and is_granted_by(key[-1], ahead):
                self.witnesses[key] = ahead
            else:
                self.witnesses[key] = witness_of(known)
        return self.witnesses[key]

    def is_possible(self, known):
        """Whether some numbers grant all that is known."""
        return self.witness(known) is not None

    def is_known(self, known, wish):
        """Whether a wish follows from what is known."""
        return wish in known or not any([self.is_possible(known + [other]) for other in contraries(wish)])


def is_rank(boxes, entries, thing):
    """Whether anything has the form of a rank, with a line over boxes for each entry."""
    if not is_tuple_of(thing, 3, 3) or thing[0] != "rank":
        return False
    return is_tuple_of(thing[1], len(entries), len(entries)) and all([is_line_over(boxes, line) for line in thing[1]])


def falls_along(memory, rank, ties):
    """Whether each tie (from, to, .., known, sets) falls, by a dict from entries to lines; None where one may rise."""
    told = []
    for tie in ties:
        line, known, sets = rank[tie[0]], tie[-2], tie[-1]
        drop = line_minus(line, all_put(rank[tie[1]], sets))
        if not memory.is_known(known, ("least", drop)):
            return None
        falls = memory.is_known(known, ("least", line_minus(drop, (ONE, ()))))
        told.append(falls and memory.is_known(known, ("least", line)))
    return told


def is_ranked_why(memory, boxes, entries, ties, many, thing):
    """Whether anything is a why, perhaps with ranks, of entries and of ties that are all among them."""
    if thing == NONE:
        return not ties
    if is_lot_why(ties, many, thing):
        return True
    if is_rank(boxes, entries, thing):
        falls = falls_along(memory, dict(zip(entries, thing[1])), ties)
        if falls is None:
            return False
        left = [tie for tie, fall in zip(ties, falls) if not fall]
        return is_ranked_why(memory, boxes, entries, left, many, thing[2])
    parts = parted(entries, ties, thing)
    if parts is None:
        return False
    return all([is_ranked_why(memory, boxes, some, inner, many, why) for some, inner, why in parts])
