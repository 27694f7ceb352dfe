"""Watchers: of a row of letters told one by one, whether a saying is granted, or can't be, however it goes on."""

from glassladder.drifting import letters_of
from glassladder.errors import NoLetter, NoWhy
from glassladder.looker import is_joined
from glassladder.made import grants, machine_of
from glassladder.rounds import is_letter
from glassladder.sayings import atoms_of, is_saying, look_at_saying
from glassladder.systems import is_tuple_of
from glassladder.whys import come_to_by, first_lacking, inner_numbers, numbers_by_starts, pieces

UNSAID = "open"


def lasting_stands(machine):
    """The stands of a made machine from which a lap with all lots can be come to."""
    choices, many = machine
    stands = list(range(len(choices)))
    ties = [(stand, to, kept) for stand in stands for asks, to, kept in choices[stand]]
    numbers = list(range(len(ties)))
    parts = pieces(stands, ties)
    lapping = []
    for part, inner in zip(parts, inner_numbers(ties, numbers, parts)):
        if inner and first_lacking(ties, inner, many) is None:
            lapping.extend(part)
    turned = [(to, stand, kept) for stand, to, kept in ties]
    return sorted(list(come_to_by(lapping, turned, numbers_by_starts(stands, turned, numbers))))


def hope_of(saying):
    """What takes the rows of letters that grant a saying: choices of stands, just those to lasting ones."""
    machine = machine_of(("not", saying))
    lasting = lasting_stands(machine)
    return tuple([tuple([choice for choice in some if choice[1] in lasting]) for some in machine[0]])


def stands_behind(hope, stands, letter):
    """The stands that may be come to from some by a letter."""
    return sorted({to for stand in stands for asks, to, kept in hope[stand] if grants(letter, asks)})


def is_known_so(system, thing):
    """Whether anything is a tuple of another saying and a joined paper of it that is let by."""
    return is_tuple_of(thing, 2, 2) and is_saying(system, thing[0]) and is_joined(system, thing[0], thing[1])


def word_by(standing):
    """The word, by the stands that what grants the saying, and what breaks it, may be at."""
    granting, breaking = standing
    if not granting:
        return "no"
    return UNSAID if breaking else "yes"


class Watcher:
    """A saying, perhaps another one that is known to hold, and the letters told up to now."""

    def __init__(self, system, saying, *, knowing=None):
        look_at_saying(system, saying)
        if knowing is not None and not is_known_so(system, knowing):
            raise NoWhy("no saying with a joined paper that is let by")
        both = (saying, ("not", saying))
        if knowing is not None:
            both = (("and", saying, knowing[0]), ("and", ("not", saying), knowing[0]))
        self.machinery = system
        self.claim = saying
        self.asked = atoms_of(both[0])
        self.hopes = [hope_of(one) for one in both]
        # A stand from which no choice is left lasts no more.
        self.standing = [[0] if hope[0] else [] for hope in self.hopes]
        self.heard = []
        self.uttered = word_by(self.standing)

    def tell(self, letter):
        """Tells the letter of the next moment; the word then is told back."""
        if not is_letter(letter, len(self.asked)):
            raise NoLetter("no letter by the watcher's atoms")
        self.heard.append(letter)
        parts = list(zip(self.hopes, self.standing))
        self.standing = [stands_behind(hope, stands, letter) for hope, stands in parts]
        # A word is said for ever, also where later on nothing can go on by what is known.
        if self.uttered == UNSAID:
            self.uttered = word_by(self.standing)
        return self.uttered

    def said(self):
        """The word: `yes`, `no` or `open`."""
        return self.uttered

    def atoms(self):
        """The atoms by which letters are told."""
        return list(self.asked)

    def letters(self):
        """The letters told up to now."""
        return list(self.heard)

    def twin(self):
        """A watcher that was told the same letters, and goes on by itself."""
        other = Watcher(self.machinery, self.claim)
        other.asked = list(self.asked)
        other.hopes = list(self.hopes)
        other.standing = list(self.standing)
        other.heard = list(self.heard)
        other.uttered = self.uttered
        return other

    def __len__(self):
        return len(self.heard)


def watched(system, saying, run):
    """The words of a watcher that knows nothing, behind each letter of a real run's stem and one lap."""
    look_at_saying(system, saying)
    stem, lap = letters_of(system, run, atoms_of(saying))
    watcher = Watcher(system, saying)
    return [watcher.tell(letter) for letter in stem + lap]
