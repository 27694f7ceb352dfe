"""What texts write, read here by patterns: a value, or the row with which they are refused."""

import math
import re

from glassladder.errors import NoSystem
from glassladder.systems import look_at_system

NAME = r"[a-z]{1,8}"
NUMBER = r"(?:0|[1-9][0-9]*)"
SHARE = r"(?:0|-?[1-9][0-9]*(?:/(?:[1-9][0-9]+|[2-9]))?)"
PART = rf"[+-][1-9][0-9]*(?:/(?:[1-9][0-9]+|[2-9]))?\*{NAME}"
LINE = rf"{SHARE}(?:{PART})*"
SIGN = {">=0": "least", ">0": "above", "=0": "just"}
HALVES = {"not": 1, "always": 1, "ever": 1, "and": 2, "or": 2, "until": 2}


class Wrong(Exception):
    pass


class Refused(Exception):
    def __init__(self, row):
        Exception.__init__(self)
        self.row = row


def match(pattern, word):
    if not re.fullmatch(pattern, word):
        raise Wrong
    return word


def share(word):
    match(SHARE, word)
    top, _, bottom = word.partition("/")
    if math.gcd(int(top), int(bottom or 1)) != 1:
        raise Wrong
    return (int(top), int(bottom or 1))


def line(word):
    match(LINE, word)
    first = re.match(SHARE, word).group()
    parts = []
    for part in re.findall(PART, word[len(first):]):
        by, name = part.split("*")
        parts.append((name, share(by.lstrip("+"))))
    if any(one[0] >= other[0] for one, other in zip(parts, parts[1:])):
        raise Wrong
    return (share(first), tuple(parts))


def wish(word):
    for sign, kind in SIGN.items():
        if word.endswith(sign) and (sign != "=0" or not word.endswith(">=0")):
            return (kind, line(word[:-len(sign)]))
    raise Wrong


def name(word):
    return match(NAME, word)


def some(word, reader):
    return () if word == "-" else tuple(reader(one) for one in word.split(";"))


def one_set(word):
    box, colon, what = word.partition(":")
    return (name(box), None if what == "?" else line(what)) if colon else match("x", "")


def rows(text):
    if not isinstance(text, str):
        raise Refused(0)
    return text.split("\n")


def one_row(text, reader):
    first, *others = rows(text)
    try:
        told = reader(first)
    except Wrong:
        raise Refused(0)
    if others:
        raise Refused(1)
    return told


def read_line(text):
    return one_row(text, line)


def read_wish(text):
    return one_row(text, wish)


def system_row(row):
    word, *words = row.split(" ")
    if word in ("boxes", "fair"):
        return word, tuple(map(name, words))
    if word == "machine" and words:
        return word, tuple(map(name, words))
    if word == "begin" and len(words) == 1:
        return word, wish(words[0])
    if word == "row" and len(words) == 5:
        ahead, deed, to, wishes, sets = words
        return word, (name(ahead), name(deed), some(wishes, wish), some(sets, one_set), name(to))
    raise Wrong


def all_rows(text, reader, order):
    """The rows, whose words together, each one letter, stand as a pattern tells at each row."""
    told, letters = [], ""
    for number, row in enumerate(rows(text)):
        try:
            told.append(reader(row))
        except Wrong:
            raise Refused(number)
        letters += "x" if told[-1][0] == "boxes" else told[-1][0][0]
        if not re.fullmatch(order, letters):
            raise Refused(number)
    return told


def read_system(text):
    told = all_rows(text, system_row, r"xb*(?:m[mr]*)?f?")
    if told[-1][0] != "fair":
        raise Refused(None)
    machines = []
    for word, one in told:
        if word == "machine":
            machines.append([one[0], one[1:], ()])
        elif word == "row":
            machines[-1][2] += (one,)
    system = (told[0][1], tuple(one for word, one in told if word == "begin"), tuple(map(tuple, machines)), told[-1][1])
    try:
        look_at_system(system)
    except NoSystem:
        raise Refused(None)
    return system


def number_of(word):
    box, sign, one = word.partition("=")
    return (name(box), share(one)) if sign else match("x", "")


def read_of(word):
    pair, comma, drift = word.partition(",")
    return number_of(pair) + (share(drift),) if comma else match("x", "")


def run_row(row):
    word, *words = row.split(" ")
    if word == "numbers":
        return word, tuple(map(number_of, words))
    if word in ("stem", "lap") and len(words) == 3:
        numbers = tuple(None if one == "-" else int(match(NUMBER, one)) for one in words[1].split(","))
        return word, ((name(words[0]), numbers), some(words[2], read_of))
    raise Wrong


def read_run(text):
    told = all_rows(text, run_row, r"ns*l*")
    lots = [told[0][1]] + [reads for word, (step, reads) in told[1:]]
    if told[-1][0] != "lap" or any(one[0] >= other[0] for lot in lots for one, other in zip(lot, lot[1:])):
        raise Refused(None)
    moves = [[(step, tuple(one[:2] for one in reads), tuple((one[0], one[2]) for one in reads))
              for word, (step, reads) in told[1:] if word == wanted] for wanted in ("stem", "lap")]
    return (told[0][1], *moves)


def saying(words):
    """The saying at the begin of words, how deep it is, and what is left of them."""
    if not words:
        raise Wrong
    word, *left = words
    if word in HALVES:
        halves, depth = [], 0
        for _ in range(HALVES[word]):
            half, deep, left = saying(left)
            halves.append(half)
            depth = max(depth, deep)
        return (word, *halves), depth + 1, left
    many = {"yes": 0, "place": 2, "deed": 1, "wish": 1}.get(word)
    if many is None or len(left) < many:
        raise Wrong
    told = tuple((wish if word == "wish" else name)(one) for one in left[:many])
    return (word,) + told, 9 if word == "wish" and told[0][0] == "just" else 1, left[many:]


def read_saying(text):
    def reader(row):
        told, depth, left = saying(row.split(" "))
        if left:
            raise Wrong
        return told, depth

    told, depth = one_row(text, reader)
    if depth > 6:
        raise Refused(None)
    return told
