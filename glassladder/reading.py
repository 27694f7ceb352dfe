"""Words that are read: each def tells what a word writes, or None where it writes none."""

from glassladder.lines import is_line, is_name
from glassladder.shares import is_share
from glassladder.wordtexts import SIGNS, show_line, show_share

FIGURES = "0123456789"
NOTHING = "-"
# Python itself reads no numbers of much more figures.
MOST_FIGURES = 4200


def are_figures(word):
    """Whether a word is one or more figures, not more than can be read."""
    return 1 <= len(word) <= MOST_FIGURES and all([sign in FIGURES for sign in word])


def number_in(word):
    """The whole number from 0 on that a word writes without a nought ahead."""
    if not are_figures(word) or word != "0" and word[0] == "0":
        return None
    return int(word)


def share_in(word):
    """The share that a word writes."""
    top, slash, bottom = word.partition("/")
    figures = top[1:] if top[:1] == "-" else top
    if not are_figures(figures) or slash and not are_figures(bottom):
        return None
    one = (int(top), int(bottom) if slash else 1)
    return one if is_share(one) and show_share(one) == word else None


def part_in(word):
    """The name and its share that a word with a sign ahead writes, as a part of a line."""
    number, star, name = word.partition("*")
    one = share_in(number[1:] if number[:1] == "+" else number)
    return None if one is None or not is_name(name) else (name, one)


def terms_of(word):
    """A word, parted ahead of each sign but one at its begin."""
    terms = [""]
    for at, sign in enumerate(word):
        if at > 0 and sign in "+-":
            terms.append("")
        terms[-1] += sign
    return terms


def line_in(word):
    """The line that a word writes."""
    first, *terms = terms_of(word)
    parts = [part_in(term) for term in terms]
    line = (share_in(first), tuple(parts))
    # Of several words that could write a line just one is taken.
    return line if is_line(line) and show_line(line) == word else None


def wish_in(word):
    """The wish that a word writes."""
    for kind, sign in SIGNS.items():
        if word.endswith(sign):
            line = line_in(word[:len(word) - len(sign)])
            if line is not None:
                return (kind, line)
    return None


def name_in_word(word):
    """The name that a word writes."""
    return word if is_name(word) else None


def all_in(words, reader):
    """A tuple of what a reader takes words for; None where one of them writes none."""
    told = [reader(word) for word in words]
    return None if any([one is None for one in told]) else tuple(told)


def list_in(word, reader):
    """A tuple of what is written with `;` between, `-` for none."""
    return () if word == NOTHING else all_in(word.split(";"), reader)


def set_in(word):
    """The box, and the line or None, that a word writes as what is set."""
    box, colon, line = word.partition(":")
    if not colon or not is_name(box):
        return None
    if line == "?":
        return (box, None)
    told = line_in(line)
    return None if told is None else (box, told)


def wishes_in(word):
    """The wishes that a word writes."""
    return list_in(word, wish_in)


def sets_in(word):
    """What is set as a word writes it."""
    return list_in(word, set_in)


def row_in(words):
    """The row that the words FROM, DEED, TO, WISHES and SETS write."""
    ahead, deed, behind, wishes, sets = words
    told = (name_in_word(ahead), name_in_word(deed), wishes_in(wishes), sets_in(sets), name_in_word(behind))
    return None if any([one is None for one in told]) else told


def number_of_box(word):
    """The box and its share that a word writes."""
    box, sign, number = word.partition("=")
    one = share_in(number)
    return None if one is None or not is_name(box) else (box, one)


def read_of_box(word):
    """The box, what is read there and its drift that a word writes."""
    pair, comma, drift = word.partition(",")
    told = number_of_box(pair)
    by = share_in(drift)
    return None if told is None or by is None else told + (by,)


def row_number_in(word):
    """A tuple of the row's number that a word writes, None in its stead where it is `-`."""
    if word == NOTHING:
        return (None,)
    number = number_in(word)
    return None if number is None else (number,)
