"""Straight wishes: lines that should be nought or more, above nought, or just nought."""

from glassladder.errors import NoWishes
from glassladder.lines import all_put, is_line, line_plus, line_times, worth
from glassladder.shares import NOUGHT, is_share
from glassladder.solving import is_solvable, solved

WORDS = ("least", "above", "just")
MOST_WISHES = 400


def is_wish(thing):
    """Whether anything is a wish."""
    if not isinstance(thing, tuple) or len(thing) != 2:
        return False
    return thing[0] in WORDS and is_line(thing[1])


def granted(wish, numbers):
    """Whether a dict from names to shares grants the wish."""
    word, line = wish
    top = worth(line, numbers)[0]
    if word == "just":
        return top == 0
    return top > 0 or top == 0 and word == "least"


def look_at_wishes(thing):
    """Refuses what is no list of at most four hundred wishes."""
    if not isinstance(thing, list) or len(thing) > MOST_WISHES:
        raise NoWishes(None)
    for number, wish in enumerate(thing):
        if not is_wish(wish):
            raise NoWishes(number)


def told(wishes):
    """("numbers", numbers) by which all the wishes are granted, or ("barred", shares) that bar them."""
    look_at_wishes(wishes)
    return solved(wishes)


def bars(wishes, thing):
    """Whether anything is a list of shares that bars the wishes."""
    look_at_wishes(wishes)
    if not isinstance(thing, list) or len(thing) != len(wishes):
        return False
    return all([is_share(by) for by in thing]) and is_barring(wishes, thing)


def is_barring(wishes, shares):
    """Whether the lines, each times its share, come to what can't be."""
    together = (NOUGHT, ())
    is_above = False
    for (word, line), by in zip(wishes, shares):
        if word != "just" and by[0] < 0:
            return False
        if word == "above" and by[0] > 0:
            is_above = True
        together = line_plus(together, line_times(line, by))
    plain, parts = together
    return parts == () and (plain[0] < 0 or plain[0] == 0 and is_above)


def can_be(wishes):
    """Whether some numbers grant all the wishes."""
    return is_solvable(wishes)


def follows(wishes, wish):
    """Whether no numbers grant all the wishes and not this one."""
    return not any([can_be(wishes + [contrary]) for contrary in contraries(wish)])


def contraries(wish):
    """The wishes of which one is granted just where this one isn't."""
    word, line = wish
    turned = line_times(line, (-1, 1))
    if word == "least":
        return [("above", turned)]
    if word == "above":
        return [("least", turned)]
    return [("above", line), ("above", turned)]


def put_all(wish, sets):
    """The wish with names put by the lines of a dict, all at once."""
    return (wish[0], all_put(wish[1], sets))
