"""Rows of letters that end in a round, and whether a saying holds there."""

from glassladder.errors import NoRound
from glassladder.sayings import ATOMS, atoms_of


def is_letter(thing, many):
    """Whether anything is a tuple of so many truths."""
    return isinstance(thing, tuple) and len(thing) == many and all([one is True or one is False for one in thing])


def is_round(thing, many):
    """Whether anything is a tuple of two lists of letters, the second one not empty."""
    if not isinstance(thing, tuple) or len(thing) != 2:
        return False
    stem, lap = thing
    if not isinstance(stem, list) or not isinstance(lap, list) or len(lap) == 0:
        return False
    return all([is_letter(letter, many) for letter in stem + lap])


def until_truths(first, second, again):
    """At which moments the second comes and the first is up to there; behind the last moment comes `again`."""
    come_to = [False for truth in first]
    # Once round the lap tells what is so at its begin: what hasn't come by then never comes.
    for lap in range(2):
        later = come_to[again]
        for at in reversed(range(len(first))):
            later = second[at] or first[at] and later
            come_to[at] = later
    return come_to


def ever_truths(some, again):
    """At which moments it comes, then or later."""
    return until_truths([True for truth in some], some, again)


def turned_truths(some):
    """Each truth turned."""
    return [not truth for truth in some]


def joined_truths(word, halves, again):
    """The truths of a word at all moments, by those of what stands behind it."""
    first = halves[0]
    if word == "not":
        return turned_truths(first)
    if word == "ever":
        return ever_truths(first, again)
    if word == "always":
        return turned_truths(ever_truths(turned_truths(first), again))
    second = halves[1]
    if word == "and":
        return [one and other for one, other in zip(first, second)]
    if word == "or":
        return [one or other for one, other in zip(first, second)]
    return until_truths(first, second, again)


def truths_of(saying, atoms, letters, again):
    """The truths of a saying at all moments of a row; behind the last one comes `again`."""
    if saying[0] == "yes":
        return [True for letter in letters]
    if saying[0] in ATOMS:
        at = atoms.index(saying)
        return [letter[at] for letter in letters]
    halves = [truths_of(half, atoms, letters, again) for half in saying[1:]]
    return joined_truths(saying[0], halves, again)


def holds(saying, thing):
    """Whether a saying holds at the first moment of a row of letters by its atoms that ends in a round."""
    atoms = atoms_of(saying)
    if not is_round(thing, len(atoms)):
        raise NoRound("no row of letters that ends in a round")
    stem, lap = thing
    return truths_of(saying, atoms, stem + lap, len(stem))[0]
