"""Houses: a system and sayings by names, changed by deeds; what hung on what turned is looked at anew."""

from glassladder.breaking import is_breaking
from glassladder.climbing import paper_anew, run_anew
from glassladder.errors import NoChange, NoName
from glassladder.keeping import asks_anew, is_kept, paper_left, texts_behind, texts_behind_all
from glassladder.ladder import Ladder
from glassladder.looker import is_joined
from glassladder.shares import is_whole
from glassladder.systems import look_at_system


class House:
    """A system, and by names sayings with what is known of them: tuples (saying, word, paper, run, way, asks)."""

    def __init__(self, system, *, rungs=("unasked", "together"), laps=2, rounds=12):
        look_at_system(system)
        self.machinery = system
        self.rung_words = tuple(rungs)
        self.lap_times = laps
        self.round_times = rounds
        self.records = {}
        # The system and the records ahead of each deed that stands.
        self.past = []
        self.events = []

    def put(self, name, saying):
        """Puts a saying by a name, in the stead of an elder one."""
        self.turn_to(texts_behind(self.texts(), ("put", name, saying)))

    def drop(self, name):
        """Drops the saying by this name."""
        self.turn_to(texts_behind(self.texts(), ("drop", name)))

    def other_row(self, machine, number, other):
        """Puts another row in the stead of one, by its machine's number and its own."""
        self.turn_to(texts_behind(self.texts(), ("row", machine, number, other)))

    def begins(self, wishes):
        """Puts other begins."""
        self.turn_to(texts_behind(self.texts(), ("begins", wishes)))

    def together(self, deeds):
        """Does all deeds of a list as one, or none."""
        self.events.append("begin")
        try:
            self.turn_to(texts_behind_all(self.texts(), deeds))
        finally:
            self.events.append("end")

    def back(self, *, many=1):
        """Takes the last deeds back."""
        if not is_whole(many) or not 1 <= many <= len(self.past):
            raise NoChange("no so many deeds stand")
        self.machinery, self.records = self.past[len(self.past) - many]
        self.past = self.past[:len(self.past) - many]

    def texts(self):
        """The system and the sayings, which deeds change."""
        return (self.machinery, self.sayings())

    def turn_to(self, texts):
        """Makes a deed of what came of it: other texts, and what is known of the sayings then."""
        system, sayings = texts
        records = {}
        for name, saying in sayings.items():
            if name in self.records and self.records[name][0] == saying:
                records[name] = self.looked_at(self.records[name], system)
            else:
                records[name] = self.searched(system, saying, [])
        self.past.append((self.machinery, self.records))
        self.machinery = system
        self.records = records

    def looked_at(self, record, system):
        """What is known of a saying behind a deed by which the system turned to this one, if it turned."""
        saying, word, paper, run, way, asks = record
        if system == self.machinery:
            return (saying, word, paper, run, "stayed", [])
        anew = asks_anew(self.machinery, system, saying, paper)
        if paper is not None:
            left = paper_left(system, paper)
            if is_joined(system, saying, left):
                return (saying, word, left, run, "stayed", anew)
        if run is not None and is_breaking(system, saying, run):
            return (saying, word, paper, run, "replayed", anew)
        return self.searched(system, saying, anew)

    def searched(self, system, saying, anew):
        """What a ladder tells of a saying."""
        ladder = Ladder(system, saying, rungs=self.rung_words, laps=self.lap_times, rounds=self.round_times)
        return (saying, ladder.word(), ladder.paper(), ladder.run(), "searched", anew)

    def record_of(self, name):
        """What is known of the saying by this name."""
        if not is_kept(self.records, name):
            raise NoName("no saying stands by this name")
        return self.records[name]

    def system(self):
        """The system."""
        return self.machinery

    def sayings(self):
        """The sayings by their names."""
        return {name: record[0] for name, record in self.records.items()}

    def word(self, name):
        """The word of a saying."""
        return self.record_of(name)[1]

    def paper(self, name):
        """The joined paper of a saying, or None."""
        return paper_anew(self.record_of(name)[2])

    def run(self, name):
        """The run that breaks a saying, or None."""
        return run_anew(self.record_of(name)[3])

    def way(self, name):
        """How it is with a saying behind the last deed: `stayed`, `replayed` or `searched`."""
        return self.record_of(name)[4]

    def asks(self, name):
        """What was looked at anew of a saying's paper behind the last deed."""
        return list(self.record_of(name)[5])

    def log(self):
        """`begin` and `end` of each asking to do deeds together."""
        return list(self.events)

    def twin(self):
        """A house with the same deeds to take back, and an empty log."""
        other = House(self.machinery, rungs=self.rung_words, laps=self.lap_times, rounds=self.round_times)
        other.records = self.records
        other.past = list(self.past)
        return other

    def __len__(self):
        return len(self.past)

    def __eq__(self, other):
        return isinstance(other, House) and self.machinery == other.machinery and self.sayings() == other.sayings()
