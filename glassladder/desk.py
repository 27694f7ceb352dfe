"""A desk: keeps houses by names, and answers rows of words."""

from glassladder.errors import NoLine, NoName, NoText, TooMany
from glassladder.house import House
from glassladder.lines import is_name
from glassladder.reading import number_in, row_in, wishes_in
from glassladder.texts import read_saying, read_system, show_run, show_system

MOST_HOUSES = 8
MOST_FIGURES = 3
DONE = "ok"
FEED = "; "
DEEDS = ("put", "less", "row", "begins", "back")
# What stands behind each word: n a name by which a house is kept, s a saying's name, d a number, w any word,
# t a text, which is all that follows.
FORMS = {
    "system": "nt", "drop": "n", "names": "", "show": "n", "put": "nst", "less": "ns", "row": "nddwwwww",
    "begins": "nw", "back": "nd", "sayings": "n", "word": "ns", "way": "ns", "run": "ns", "paper": "ns", "asks": "ns",
}


def is_of_kind(kind, word):
    """Whether a word is one of a kind."""
    if kind == "w":
        return word != ""
    if kind == "d":
        return len(word) <= MOST_FIGURES and number_in(word) is not None
    return is_name(word)


def words_of(row):
    """The words of a row, the last one all of its text where it has one; of anything."""
    if not isinstance(row, str) or "\n" in row:
        raise NoLine("no row of words")
    word, blank, left = row.partition(" ")
    if word not in FORMS:
        raise NoLine("no word that begins a row")
    words = [word]
    for kind in FORMS[word]:
        if not blank:
            raise NoLine("a word too few")
        if kind == "t":
            words.append(left.replace(FEED, "\n"))
            blank = ""
        else:
            one, blank, left = left.partition(" ")
            if not is_of_kind(kind, one):
                raise NoLine("a word of another kind")
            words.append(one)
    if blank:
        raise NoLine("a word too many")
    return words


def names_told(names):
    """Names, sorted, with blanks between, `-` where there are none."""
    return " ".join(sorted(names)) if names else "-"


def shown(text):
    """A text as it stands in a row."""
    return text.replace("\n", FEED)


def do_deed(house, word, words):
    """Does the deed that a row tells to a house."""
    if word == "put":
        house.put(words[0], read_saying(words[1]))
    elif word == "less":
        house.drop(words[0])
    elif word == "back":
        house.back(many=int(words[0]))
    elif word == "begins":
        wishes = wishes_in(words[0])
        if wishes is None:
            raise NoText(0)
        house.begins(wishes)
    else:
        row = row_in(words[2:])
        if row is None:
            raise NoText(0)
        house.other_row(int(words[0]), int(words[1]), row)


def told_of_saying(house, word, name):
    """What a row asks of a saying of a house."""
    if word == "word":
        return house.word(name)
    if word == "way":
        return house.way(name)
    if word == "run":
        run = house.run(name)
        return "-" if run is None else shown(show_run(run))
    if word == "paper":
        paper = house.paper(name)
        return "-" if paper is None else str(len(paper[0]))
    return str(len(house.asks(name)))


class Desk:
    """Houses by names."""

    def __init__(self):
        self.houses = {}

    def say(self, row):
        """The answer to a row of words."""
        word, *words = words_of(row)
        if word == "names":
            return names_told(list(self.houses))
        if word == "system":
            self.keep(words[0], words[1])
            return DONE
        if words[0] not in self.houses:
            raise NoName("no house is kept by this name")
        if word == "drop":
            del self.houses[words[0]]
            return DONE
        return self.answer(self.houses[words[0]], word, words[1:])

    def keep(self, name, text):
        """Keeps a house of the system that a text writes, in the stead of one there."""
        system = read_system(text)
        if name not in self.houses and len(self.houses) == MOST_HOUSES:
            raise TooMany(MOST_HOUSES + 1)
        self.houses[name] = House(system)

    def answer(self, house, word, words):
        """The answer of a house that is kept."""
        if word == "show":
            return shown(show_system(house.system()))
        if word == "sayings":
            return names_told(list(house.sayings()))
        if word in DEEDS:
            do_deed(house, word, words)
            return DONE
        return told_of_saying(house, word, words[0])

    def __len__(self):
        return len(self.houses)
