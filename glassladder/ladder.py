"""Ladders: a system's rungs, and rounds at the lowest one by which a saying comes to hold, or to be broken."""

from glassladder.breaking import is_breaking
from glassladder.climbing import (
    lines_of_lap, paper_anew, paper_up, path_of, rank_of_lap, run_anew, run_up, rungs_made, wishes_more,
)
from glassladder.errors import NoHelp, TooMany
from glassladder.leading import led_back_by, led_begin_by
from glassladder.looker import ground_of
from glassladder.sayings import atoms_of, look_at_saying
from glassladder.systems import is_line_over, is_loose_wish
from glassladder.through import lap_or_why, table_by

RUNGS = ("unasked", "together")
MOST_WISHES = 8
GOING = "going"
OPEN = "open"
HOLDS = "holds"
BROKEN = "broken"


class Ladder:
    """The rungs of a system and a saying, and what was found at the lowest one up to now."""

    def __init__(self, system, saying, *, rungs=RUNGS, laps=2, rounds=20):
        look_at_saying(system, saying)
        made, sayings = rungs_made(system, saying, rungs)
        self.machinery = system
        self.rung_words = tuple(rungs)
        self.made_rungs = made
        # The saying as it is above each rung, and at the lowest one.
        self.led_sayings = sayings
        self.ground = ground_of(made[-1][2] if made else system, sayings[-1])
        self.lap_times = laps
        self.through = [atom[1] for atom in atoms_of(sayings[-1]) if atom[0] == "wish"]
        self.falling = []
        self.state = GOING
        self.proof = None
        self.breaking = None
        self.trail = []
        self.go(rounds)

    def go(self, many=1):
        """Goes on by so many rounds, while the word is `going`."""
        left = many
        while left > 0 and self.state == GOING:
            self.state = self.word_behind_round()
            self.trail.append(self.state)
            left -= 1

    def word_behind_round(self):
        """Goes a round; told is the word behind it."""
        if len(self.through) > MOST_WISHES:
            return OPEN
        try:
            found = table_by(self.ground, self.through)
        except TooMany:
            return OPEN
        system, atoms, machine, memory = self.ground
        told = lap_or_why(memory, machine[1] + len(system[3]), found, self.falling)
        if told[0] == "why":
            self.proof = paper_up(self.made_rungs, self.led_sayings, found[:3] + (told[1],))
            return HOLDS
        return self.word_behind_lap(found, told)

    def word_behind_lap(self, found, told):
        """Leads a lap back, and up, or learns of it; told is the word then."""
        system, atoms, machine, memory = self.ground
        path = path_of(self.ground, found, told)
        back = led_back_by(system, path)
        if back[0] == "run":
            return self.word_behind_run(path, back[1])
        stem, lap = path
        begun = led_begin_by(system, stem + lap * self.lap_times)
        if begun[0] == "between":
            more = wishes_more(self.through, begun[1])
            self.through.extend(more)
            return GOING if more else OPEN
        search = (memory, found[3], machine[1] + len(system[3]), self.falling)
        line = rank_of_lap(search, told, lines_of_lap(system, lap))
        if line is None:
            return OPEN
        self.falling.append(line)
        return GOING

    def word_behind_run(self, path, run):
        """Leads the path of a run at the lowest up to the top; told is the word then."""
        run = run_up(self.made_rungs, path, run)
        if run is None or not is_breaking(self.machinery, self.led_sayings[0], run):
            return OPEN
        self.breaking = run
        return BROKEN

    def helped(self, thing):
        """Takes a wish, or a line as a rank, to go on with."""
        boxes = self.ground[0][0]
        if self.state != OPEN:
            raise NoHelp("only an open ladder can be helped")
        if is_loose_wish(boxes, thing) and thing not in self.through:
            self.through.append(thing)
        elif is_line_over(boxes, thing) and thing not in self.falling:
            self.falling.append(thing)
        else:
            raise NoHelp("no wish or line over the lowest boxes that it has not")
        self.state = GOING

    def word(self):
        """`going`, `holds`, `broken` or `open`."""
        return self.state

    def gone(self):
        """How many rounds it went."""
        return len(self.trail)

    def wishes(self):
        """The wishes through which it looks."""
        return list(self.through)

    def ranks(self):
        """The lines that it knows as ranks."""
        return list(self.falling)

    def rungs(self):
        """Its rungs, the highest one first."""
        return list(self.made_rungs)

    def paper(self):
        """The joined paper of a saying that holds, else None."""
        return paper_anew(self.proof)

    def run(self):
        """The run that breaks the saying, else None."""
        return run_anew(self.breaking)

    def twin(self):
        """A ladder that stands as this one does, and goes on by itself."""
        other = Ladder(self.machinery, self.led_sayings[0], rungs=self.rung_words, laps=self.lap_times, rounds=0)
        other.through = list(self.through)
        other.falling = list(self.falling)
        other.state = self.state
        other.proof = self.proof
        other.breaking = self.breaking
        other.trail = list(self.trail)
        return other

    def __len__(self):
        return len(self.trail)
