"""Whys with ranks: lines that never rise along ties, and that fall along some without going below nought."""

from glassladder.granting import can_be, contraries
from glassladder.lines import all_put, line_minus
from glassladder.shares import ONE
from glassladder.systems import is_line_over, is_tuple_of
from glassladder.whys import NONE, is_lot_why, parted

class Memory:
    """What was found of wishes, as the same ones are asked of again and again."""

    def __init__(self):
        self.truths = {}

    def is_possible(self, known):
        """Whether some numbers grant all that is known."""
        key = tuple(known)
        if key not in self.truths:
            self.truths[key] = can_be(known)
        return self.truths[key]

    def is_known(self, known, wish):
        """Whether a wish follows from what is known."""
        return wish in known or not any([self.is_possible(known + [other]) for other in contraries(wish)])


def is_rank(boxes, entries, thing):
    """Whether anything has the form of a rank, with a line over boxes for each entry."""
    if not is_tuple_of(thing, 3, 3) or thing[0] != "rank":
        return False
    return is_tuple_of(thing[1], len(entries), len(entries)) and all([is_line_over(boxes, line) for line in thing[1]])


def left_by(memory, entries, ties, lines):
    """The ties (from, to, lots, known, sets) along which the lines don't fall; None where they may rise along one."""
    rank = dict(zip(entries, lines))
    left = []
    for tie in ties:
        start, end, lots, known, sets = tie
        drop = line_minus(rank[start], all_put(rank[end], sets))
        if not memory.is_known(known, ("least", drop)):
            return None
        falls = memory.is_known(known, ("least", line_minus(drop, (ONE, ()))))
        if not falls or not memory.is_known(known, ("least", rank[start])):
            left.append(tie)
    return left


def is_ranked_why(memory, boxes, entries, ties, many, thing):
    """Whether anything is a why, perhaps with ranks, of entries and of ties that are all among them."""
    if thing == NONE:
        return not ties
    if is_lot_why(ties, many, thing):
        return True
    if is_rank(boxes, entries, thing):
        left = left_by(memory, entries, ties, thing[1])
        return left is not None and is_ranked_why(memory, boxes, entries, left, many, thing[2])
    parts = parted(entries, ties, thing)
    if parts is None:
        return False
    return all([is_ranked_why(memory, boxes, some, inner, many, why) for some, inner, why in parts])
