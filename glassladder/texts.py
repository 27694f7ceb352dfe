"""Texts that write systems, sayings and runs; and what texts write, read."""

from glassladder.errors import NoSystem, NoText
from glassladder.lines import is_rising
from glassladder.reading import (
    NOTHING, all_in, line_in, list_in, name_in_word, number_of_box, read_of_box, row_in, row_number_in, wish_in,
)
from glassladder.sayings import HALVES, MOST_WITHIN
from glassladder.systems import look_at_system
from glassladder.wordtexts import show_line, show_share, show_wish

# How many words an atom has, its own one counted.
ATOM_WORDS = {"yes": 1, "place": 3, "deed": 2, "wish": 2}


def show_list(words):
    """Words with `;` between, `-` where there are none."""
    return ";".join(words) if words else NOTHING


def show_set(box, line):
    """The word of what is set."""
    return box + ":" + ("?" if line is None else show_line(line))


def show_row(row):
    """The words of a machine's row."""
    ahead, deed, wishes, sets, behind = row
    words = ["row", ahead, deed, behind, show_list([show_wish(wish) for wish in wishes])]
    return " ".join(words + [show_list([show_set(box, line) for box, line in sets])])


def show_system(system):
    """The text of a system."""
    boxes, begins, machines, fair = system
    rows = [" ".join(("boxes",) + boxes)] + ["begin " + show_wish(wish) for wish in begins]
    for name, places, some in machines:
        rows.append(" ".join(("machine", name) + places))
        rows.extend([show_row(row) for row in some])
    return "\n".join(rows + [" ".join(("fair",) + fair)])


def show_saying(saying):
    """The text of a saying."""
    if saying[0] == "wish":
        return "wish " + show_wish(saying[1])
    if saying[0] in HALVES:
        return " ".join([saying[0]] + [show_saying(half) for half in saying[1:]])
    return " ".join(saying)


def show_move(word, move):
    """The words of a step of a stem or a lap."""
    (deed, rows), reads, drifts = move
    numbers = ",".join([NOTHING if number is None else str(number) for number in rows])
    parts = list(zip(reads, drifts))
    read = [f"{box}={show_share(one)},{show_share(drift)}" for (box, one), (again, drift) in parts]
    return f"{word} {deed} {numbers} {show_list(read)}"


def show_run(run):
    """The text of a run."""
    numbers, stem, lap = run
    first = " ".join(["numbers"] + [f"{box}={show_share(one)}" for box, one in numbers])
    return "\n".join([first] + [show_move("stem", move) for move in stem] + [show_move("lap", move) for move in lap])


def rows_of(text):
    """The rows of a text."""
    if not isinstance(text, str):
        raise NoText(0)
    return text.split("\n")


def look_at_one(rows, told):
    """Refuses rows of which the first one writes nothing, or behind which further ones stand."""
    if told is None:
        raise NoText(0)
    if len(rows) > 1:
        raise NoText(1)


def read_line(text):
    """The line that a text writes."""
    rows = rows_of(text)
    line = line_in(rows[0])
    look_at_one(rows, line)
    return line


def read_wish(text):
    """The wish that a text writes."""
    rows = rows_of(text)
    wish = wish_in(rows[0])
    look_at_one(rows, wish)
    return wish


def system_row_in(row):
    """A tuple (word, what stands behind it) of a row of a system's text, or None."""
    word, *words = row.split(" ")
    told = None
    if word == "boxes" or word == "fair" or word == "machine" and words:
        told = all_in(words, name_in_word)
    elif word == "begin" and len(words) == 1:
        told = wish_in(words[0])
    elif word == "row" and len(words) == 5:
        told = row_in(words)
    return None if told is None else (word, told)


def can_stand_in_system(word, ahead):
    """Whether a row with this word can stand behind rows with those ahead."""
    if word == "boxes" or not ahead:
        return word == "boxes" and not ahead
    if "fair" in ahead:
        return False
    return word != "row" and word != "begin" or (word == "row") == ("machine" in ahead)


def rows_read(text, reader, can_stand):
    """What the rows of a text write, by a def that reads one and one that tells where its word can stand."""
    told = []
    ahead = []
    for number, row in enumerate(rows_of(text)):
        one = reader(row)
        if one is None or not can_stand(one[0], ahead):
            raise NoText(number)
        told.append(one)
        ahead.append(one[0])
    return told


def system_of_rows(told):
    """What the rows of a system's text make, whether or not it is a system."""
    machines = []
    for word, one in told:
        if word == "machine":
            machines.append((one[0], one[1:], ()))
        if word == "row":
            name, places, rows = machines[-1]
            machines[-1] = (name, places, rows + (one,))
    begins = [one for word, one in told if word == "begin"]
    return (told[0][1], tuple(begins), tuple(machines), told[-1][1])


def read_system(text):
    """The system that a text writes."""
    told = rows_read(text, system_row_in, can_stand_in_system)
    if told[-1][0] != "fair":
        raise NoText(None)
    system = system_of_rows(told)
    try:
        look_at_system(system)
    except NoSystem:
        raise NoText(None) from None
    return system


def atom_in(words):
    """The atom that words write, or None."""
    word, *others = words
    if len(words) != ATOM_WORDS[word]:
        return None
    told = all_in(others, wish_in if word == "wish" else name_in_word)
    return None if told is None else (word,) + told


def tokens_in(words):
    """The joining words and atoms of a saying that words write, in order, or None."""
    tokens = []
    at = 0
    lacking = 1
    while at < len(words) and lacking:
        word = words[at]
        if word in HALVES:
            token = (word,)
            lacking += HALVES[word] - 1
        else:
            token = atom_in(words[at:at + ATOM_WORDS[word]]) if word in ATOM_WORDS else None
            lacking -= 1
        if token is None:
            return None
        tokens.append(token)
        at += len(token)
    return None if lacking or at < len(words) else tokens


def is_loose_token(token):
    """Whether it is no atom of a `just`."""
    return token[0] != "wish" or token[1][0] != "just"


def saying_of(tokens):
    """The saying of joining words and atoms; None where too many are within one another."""
    built = []
    for token in reversed(tokens):
        many = HALVES.get(token[0], 0)
        halves = built[len(built) - many:][::-1]
        built = built[:len(built) - many]
        depth = 1 + max([0] + [half[1] for half in halves])
        # What is within too many isn't built: it may go deeper than is good for anything.
        built.append((token + tuple([half[0] for half in halves]) if depth <= MOST_WITHIN else None, depth))
    return built[0][0]


def read_saying(text):
    """The saying that a text writes, whatever names there are."""
    rows = rows_of(text)
    tokens = tokens_in(rows[0].split(" "))
    look_at_one(rows, tokens)
    saying = saying_of(tokens) if all([is_loose_token(token) for token in tokens]) else None
    if saying is None:
        raise NoText(None)
    return saying


def move_in(words):
    """The step with its reads and drifts, tuples (box, share, drift), that words write, or None."""
    deed, rows, reads = words
    numbers = all_in(rows.split(","), row_number_in)
    told = list_in(reads, read_of_box)
    if name_in_word(deed) is None or numbers is None or told is None:
        return None
    return ((deed, tuple([one[0] for one in numbers])), told)


def run_row_in(row):
    """A tuple (word, what stands behind it) of a row of a run's text, or None."""
    word, *words = row.split(" ")
    told = None
    if word == "numbers":
        told = all_in(words, number_of_box)
    elif (word == "stem" or word == "lap") and len(words) == 3:
        told = move_in(words)
    return None if told is None else (word, told)


def can_stand_in_run(word, ahead):
    """Whether a row with this word can stand behind rows with those ahead."""
    if word == "numbers" or not ahead:
        return word == "numbers" and not ahead
    return word == "lap" or "lap" not in ahead


def moves_of_rows(told, wanted):
    """The moves of all rows with this word."""
    moves = [one for word, one in told if word == wanted]
    return [
        (step, tuple([(box, one) for box, one, drift in reads]), tuple([(box, drift) for box, one, drift in reads]))
        for step, reads in moves
    ]


def read_run(text):
    """The run that a text writes, whatever its steps, shares and drifts are."""
    told = rows_read(text, run_row_in, can_stand_in_run)
    numbers, stem, lap = told[0][1], moves_of_rows(told, "stem"), moves_of_rows(told, "lap")
    lots = [numbers] + [reads for step, reads, drifts in stem + lap]
    if not lap or not all([is_rising([box for box, one in lot]) for lot in lots]):
        raise NoText(None)
    return (numbers, stem, lap)
