"""Lines: a plain share, and names' numbers times shares, as tuples (share, parts)."""

from glassladder.errors import NoNumber
from glassladder.shares import NOUGHT, is_share, minus, plus, times, total

LETTERS = "abcdefghijklmnopqrstuvwxyz"
LONGEST_NAME = 8


def is_name(thing):
    """Whether anything is a name: one to eight small letters."""
    if not isinstance(thing, str) or not 1 <= len(thing) <= LONGEST_NAME:
        return False
    return all([sign in LETTERS for sign in thing])


def is_rising(names):
    """Whether names rise, none of them twice."""
    return all([one < other for one, other in zip(names, names[1:])])


def is_part(thing):
    """Whether anything is a name with a share that isn't nought."""
    if not isinstance(thing, tuple) or len(thing) != 2:
        return False
    name, by = thing
    return is_name(name) and is_share(by) and by != NOUGHT


def is_line(thing):
    """Whether anything is a line."""
    if not isinstance(thing, tuple) or len(thing) != 2:
        return False
    plain, parts = thing
    if not is_share(plain) or not isinstance(parts, tuple):
        return False
    return all([is_part(part) for part in parts]) and is_rising([part[0] for part in parts])


def add_part(shares, name, by):
    """Adds a name's share to a dict of them."""
    shares[name] = plus(shares[name], by) if name in shares else by


def line_of_dict(plain, shares):
    """The line of a share and a dict from names to shares."""
    return (plain, tuple([(name, shares[name]) for name in sorted(list(shares)) if shares[name] != NOUGHT]))


def line_of(plain=NOUGHT, parts=()):
    """The line of a share and a dict, or a tuple of tuples, of names' shares; a name's shares are added up."""
    pairs = list(parts.items()) if isinstance(parts, dict) else parts
    shares = {}
    for name, by in pairs:
        add_part(shares, name, by)
    return line_of_dict(plain, shares)


def line_plus(one, other):
    """The sum."""
    shares = dict(one[1])
    for name, by in other[1]:
        add_part(shares, name, by)
    return line_of_dict(plus(one[0], other[0]), shares)


def line_minus(one, other):
    """The difference."""
    shares = dict(one[1])
    for name, by in other[1]:
        add_part(shares, name, minus(NOUGHT, by))
    return line_of_dict(minus(one[0], other[0]), shares)


def line_times(line, by):
    """The line times a share."""
    if by == NOUGHT:
        return (NOUGHT, ())
    return (times(line[0], by), tuple([(name, times(part, by)) for name, part in line[1]]))


def put(line, name, other):
    """The line with the name put by another line."""
    return all_put(line, {name: other})


def all_put(line, others):
    """The line with names put by lines, all at once: names in these stay as they are."""
    plain = line[0]
    shares = {}
    for name, by in line[1]:
        if name in others:
            stead = line_times(others[name], by)
            plain = plus(plain, stead[0])
            for inner, part in stead[1]:
                add_part(shares, inner, part)
        else:
            add_part(shares, name, by)
    return line_of_dict(plain, shares)


def worth(line, numbers):
    """What the line comes to by a dict from names to shares."""
    for name, by in line[1]:
        if name not in numbers:
            raise NoNumber(name)
    return total([times(by, numbers[name]) for name, by in line[1]], start=line[0])


def names_of(line):
    """The names in the line, rising."""
    return [name for name, by in line[1]]
