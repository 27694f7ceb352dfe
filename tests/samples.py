"""What several tests need: things of all kinds, lines and wishes in short, chance that is always the same."""

import random
from fractions import Fraction

from glassladder.lines import line_of
from glassladder.shares import share

ANYTHING = (
    None, True, False, 0, 1, -1, 10 ** 99, "", "a", "x", "rest", "least", "yes", "X", "x1", "abcdefghi", b"", b"a",
    [], [0], [1, 1], [[]], (), (0,), (1,), (1, 1, 1), (None, None), ((), ()), (([],),), {}, {"x": (1, 1)}, {1: 2},
    set(), frozenset(), (True, 1), (1, True), (1, 0), (1, -1), (2, 4), ("x", (1, 1)), len, object(),
)


def anything_but(*wanted):
    """All those things but the ones told, which are compared with their kinds."""
    return [thing for thing in ANYTHING if all(repr(thing) != repr(one) for one in wanted)]


def line(plain=0, **parts):
    """A line of whole numbers or fractions."""
    return line_of(as_share(plain), {name: as_share(by) for name, by in parts.items()})


def as_share(number):
    """The share of a whole number or a fraction."""
    number = Fraction(number)
    return share(number.numerator, number.denominator)


def as_fraction(one):
    """The fraction of a share."""
    return Fraction(one[0], one[1])


def least(plain=0, **parts):
    return ("least", line(plain, **parts))


def above(plain=0, **parts):
    return ("above", line(plain, **parts))


def just(plain=0, **parts):
    return ("just", line(plain, **parts))


def turned(one):
    """The line times minus one."""
    return (as_share(-as_fraction(one[0])), tuple((name, as_share(-as_fraction(by))) for name, by in one[1]))


def worth_of(one, numbers):
    """A line's worth, reckoned here by fractions."""
    return as_fraction(one[0]) + sum(as_fraction(by) * as_fraction(numbers[name]) for name, by in one[1])


def is_granted(wish, numbers):
    """Whether a wish is granted, reckoned here by fractions."""
    worth = worth_of(wish[1], numbers)
    return {"least": worth >= 0, "above": worth > 0, "just": worth == 0}[wish[0]]


def is_barred_by(wishes, shares):
    """Whether shares bar the wishes, reckoned here by fractions."""
    if not isinstance(shares, list) or len(shares) != len(wishes):
        return False
    plain, parts, is_above = Fraction(0), {}, False
    for (word, one), by in zip(wishes, shares):
        by = as_fraction(by)
        if word != "just" and by < 0:
            return False
        is_above = is_above or (word == "above" and by > 0)
        plain += as_fraction(one[0]) * by
        for name, part in one[1]:
            parts[name] = parts.get(name, 0) + as_fraction(part) * by
    return not any(parts.values()) and (plain < 0 or (plain == 0 and is_above))


def some_wishes(chance, many, names, most=9, near=1.0):
    """Wishes by chance; by near, the share of those that some numbers, always the same, grant."""
    middle = {name: Fraction(chance.randint(-9, 9), chance.randint(1, 3)) for name in names}
    wishes = []
    for _ in range(many):
        some = chance.sample(names, chance.randint(0, len(names)))
        parts = {name: Fraction(chance.randint(-most, most), chance.choice((1, 1, 1, 2, 3))) for name in some}
        word = chance.choice(("least", "least", "above", "above", "just"))
        plain = Fraction(chance.randint(-most, most))
        if chance.random() < near:
            plain = -sum((middle[name] * parts[name] for name in parts), Fraction(0))
            plain += {"least": chance.choice((0, 0, 1)), "above": Fraction(1, 2), "just": 0}[word]
        wishes.append((word, line(plain, **parts)))
    return wishes


def chance_of(number):
    """A row of chances, the same for the same number."""
    return random.Random(number)
