import copy
import itertools
import unittest

from glassladder.drifting import counts, letters_of
from glassladder.errors import NoLetter, NoRound, NoSaying, NoSystem, NoWhy, TooMany
from glassladder.ladder import Ladder
from glassladder.looker import is_joined
from glassladder.rounds import holds
from glassladder.sayings import atoms_of
from glassladder.watchers import Watcher, watched
from tests.machines import SYSTEM, with_part
from tests.papers import atoms_over, rounds_of, some_saying_over, some_small_system
from tests.runs import move, rest_of, some_real_runs
from tests.samples import above, anything_but, as_share, chance_of, least, line

T, F = True, False
DOOR = ((), (), (("door", ("shut", "ajar"), (
    ("shut", "pull", (), (), "ajar"), ("ajar", "push", (), (), "shut"))),), ())
AJAR = ("place", "door", "ajar")
PULL = ("deed", "pull")
PUSH = ("deed", "push")
# What holds of the door: it isn't pulled while it is ajar.
ONCE = ("always", ("not", ("and", AJAR, PULL)))


def all_rounds(many, most):
    """All rows of letters that end in a round, with no more letters than most."""
    letters = list(itertools.product((T, F), repeat=many))
    for size in range(1, most + 1):
        for row in itertools.product(letters, repeat=size):
            for at in range(size):
                yield list(row[:at]), list(row[at:])


def word_by_going(saying, other, told, rounds):
    """The word as far as these rows tell, of those that go on from what was told."""
    both = ("and", saying, other)
    grants = breaks = False
    for stem, lap in rounds:
        row = (told + stem, lap)
        if holds(("and", both, other), row):
            grants = True
        elif holds(("and", ("or", both, other), other), row):
            breaks = True
    return "no" if not grants else "open" if breaks else "yes"


class Words(unittest.TestCase):
    def told(self, saying, letters, words, knowing=None, system=DOOR):
        watcher = Watcher(system, saying, knowing=knowing)
        told = [watcher.said()]
        for letter in letters:
            told.append(watcher.tell(letter))
            self.assertEqual(watcher.said(), told[-1])
        self.assertEqual(told, words)
        self.assertEqual(watcher.letters(), letters)
        self.assertEqual(len(watcher), len(letters))

    def test_ahead_of_all_moments(self):
        self.told(("yes",), [], ["yes"])
        self.told(("not", ("yes",)), [], ["no"])
        self.told(("or", AJAR, ("not", AJAR)), [], ["yes"])
        self.told(("and", ("always", AJAR), ("ever", ("not", AJAR))), [], ["no"])
        self.told(AJAR, [], ["open"])
        self.told(("always", ("ever", AJAR)), [], ["open"])

    def test_at_the_very_moment(self):
        self.told(AJAR, [(T,), (F,)], ["open", "yes", "yes"])
        self.told(AJAR, [(F,), (T,)], ["open", "no", "no"])
        self.told(("always", AJAR), [(T,), (T,), (F,), (T,)], ["open", "open", "open", "no", "no"])
        self.told(("ever", AJAR), [(F,), (F,), (T,), (F,)], ["open", "open", "open", "yes", "yes"])
        self.told(("until", AJAR, PULL), [(T, F), (T, F), (F, T), (F, F)], ["open", "open", "open", "yes", "yes"])
        self.told(("until", AJAR, PULL), [(T, F), (F, F), (T, T)], ["open", "open", "no", "no"])
        # Of what comes again and again nothing is said at any moment.
        self.told(("always", ("ever", AJAR)), [(T,), (F,), (T,)], ["open"] * 4)
        self.told(("ever", ("always", AJAR)), [(T,), (F,), (T,)], ["open"] * 4)

    def test_knowing(self):
        paper = Ladder(DOOR, ONCE).paper()
        # The atoms are those of both, in order.
        watcher = Watcher(DOOR, ("always", ("not", PULL)), knowing=(ONCE, paper))
        self.assertEqual(watcher.atoms(), [PULL, AJAR])
        watcher = Watcher(DOOR, ("ever", PUSH), knowing=(ONCE, paper))
        self.assertEqual(watcher.atoms(), [PUSH, AJAR, PULL])
        # That it is either not ajar or not pulled is known ahead.
        saying = ("or", ("not", PULL), ("not", AJAR))
        self.told(saying, [], ["open"])
        self.told(saying, [], ["yes"], knowing=(ONCE, paper))
        self.told(("and", PULL, AJAR), [], ["no"], knowing=(ONCE, paper))
        self.told(("ever", ("not", saying)), [(F, F)], ["no", "no"], knowing=(ONCE, paper))
        self.told(("always", ("or", PULL, ("not", AJAR))), [(T, F), (F, F), (F, T)], ["open", "open", "open", "no"],
                  knowing=(ONCE, paper))

    def test_no_ahead_of_yes_where_both_are_so(self):
        # What is known can't be any more: no row goes on that grants it.
        paper = Ladder(DOOR, ONCE).paper()
        self.told(("always", ("ever", PUSH)), [(F, T, T), (T, F, F)], ["open", "no", "no"], knowing=(ONCE, paper))
        # With a paper of a saying that can't be, of a system without a run that counts.
        none = with_part(DOOR, 2, (("door", ("shut", "ajar"), (("ajar", "pull", (), (), "ajar"),)),))
        none = with_part(none, 3, ("pull",))
        never = ("not", ("yes",))
        paper = Ladder(none, never).paper()
        self.told(("yes",), [], ["no"], knowing=(never, paper), system=none)

    def test_for_ever(self):
        # Said is yes; then what was known turns out not to be so.
        paper = Ladder(DOOR, ONCE).paper()
        letters = [(T, F, F), (F, T, T), (F, F, F)]
        self.told(("ever", PUSH), letters, ["open", "yes", "yes", "yes"], knowing=(ONCE, paper))

    def test_by_going_on(self):
        chance = chance_of(37)
        atoms = [AJAR, PULL]
        seen = {}
        rounds = {many: list(all_rounds(many, 4 if many < 2 else 3)) for many in (0, 1, 2)}
        for _ in range(60):
            saying = some_saying_over(chance, atoms, 3)
            many = len(atoms_of(saying))
            watcher, told = Watcher(DOOR, saying), []
            while True:
                word = watcher.said()
                self.assertEqual(word, word_by_going(saying, ("yes",), told, rounds[many]), (saying, told))
                seen[word] = seen.get(word, 0) + 1
                if len(told) == 3:
                    break
                told.append(tuple(chance.random() < 0.6 for _ in range(many)))
                watcher.tell(told[-1])
        self.assertGreater(min(seen[word] for word in ("yes", "no", "open")), 20, seen)

    def test_by_going_on_with_what_is_known(self):
        chance = chance_of(38)
        rounds = list(all_rounds(2, 3))
        paper = Ladder(DOOR, ONCE).paper()
        seen = {}
        for _ in range(40):
            saying = some_saying_over(chance, [AJAR, PULL], 3)
            watcher, told = Watcher(DOOR, saying, knowing=(ONCE, paper)), []
            other = Watcher(DOOR, saying)
            self.assertEqual(sorted(watcher.atoms()), sorted([AJAR, PULL]))
            said = "open"
            while True:
                word = watcher.said()
                if said == "open":
                    self.assertEqual(word, word_by_going(saying, ONCE, told, rounds), (saying, told))
                    said = word
                self.assertEqual(word, said)
                seen[word] = seen.get(word, 0) + 1
                # One that knows says its word no later than one that doesn't.
                if other.said() != "open":
                    self.assertNotEqual(word, "open")
                if len(told) == 3:
                    break
                letter = {AJAR: chance.random() < 0.5, PULL: chance.random() < 0.4}
                told.append(tuple(letter[atom] for atom in watcher.atoms()))
                watcher.tell(told[-1])
                other.tell(tuple(letter[atom] for atom in other.atoms()))
        self.assertEqual(len(seen), 3)

    def test_never_taken_back(self):
        chance = chance_of(39)
        for _ in range(60):
            saying = some_saying_over(chance, [AJAR, PULL, PUSH], 4)
            watcher, said = Watcher(DOOR, saying), "open"
            turned = Watcher(DOOR, ("not", saying))
            for _ in range(5):
                letter = tuple(chance.random() < 0.5 for _ in watcher.atoms())
                word = watcher.tell(letter)
                self.assertIn(word, ("open", said) if said != "open" else ("open", "yes", "no"))
                if said != "open":
                    self.assertEqual(word, said)
                said = word
                self.assertEqual(turned.tell(letter), {"yes": "no", "no": "yes", "open": "open"}[word])


class Watchers(unittest.TestCase):
    def test_names(self):
        watcher = Watcher(saying=AJAR, system=DOOR, knowing=None)
        self.assertEqual(watcher.tell(letter=(T,)), "yes")
        with self.assertRaises(TypeError):
            Watcher(DOOR, AJAR, None)
        self.assertFalse(watcher == 5)

    def test_atoms(self):
        saying = ("until", AJAR, ("and", ("wish", least(0, x=1)), ("not", AJAR)))
        system = with_part(DOOR, 0, ("x",))
        watcher = Watcher(system, saying)
        self.assertEqual(watcher.atoms(), [AJAR, ("wish", least(0, x=1))])
        self.assertEqual(Watcher(system, ("yes",)).atoms(), [])
        self.assertEqual(Watcher(system, ("yes",)).tell(()), "yes")

    def test_no_system_then_no_saying_then_no_why(self):
        paper = Ladder(DOOR, ONCE).paper()
        for thing in anything_but():
            with self.assertRaises(NoSystem):
                Watcher(thing, thing, knowing=thing)
            with self.assertRaises(NoSaying):
                Watcher(SYSTEM, thing, knowing=thing)
            if thing is not None:
                with self.assertRaises(NoWhy):
                    Watcher(DOOR, AJAR, knowing=thing)
            for knowing in ((thing, paper), (ONCE, thing), (thing, thing), (ONCE, paper, thing), (ONCE,)):
                with self.assertRaises(NoWhy):
                    Watcher(DOOR, AJAR, knowing=knowing)
        # A paper of another saying, of another system, one that isn't let by, and a list.
        other = ("always", ("or", AJAR, ("not", AJAR)))
        self.assertFalse(is_joined(DOOR, AJAR, paper))
        for knowing in ((AJAR, paper), (ONCE, paper[:3] + (("none",),)), [ONCE, paper], (paper, ONCE),
                        (("always", ("not", ("deed", "kick"))), paper)):
            with self.assertRaises(NoWhy):
                Watcher(DOOR, AJAR, knowing=knowing)
        self.assertEqual(Watcher(DOOR, AJAR, knowing=(other, Ladder(DOOR, other).paper())).said(), "open")

    def test_no_letter(self):
        watcher = Watcher(DOOR, ("until", AJAR, PULL))
        watcher.tell((T, F))
        for thing in anything_but() + [(T,), (T, F, T), [T, F], (T, 1), (0, F), (T, None), "ab", (T, "a")]:
            with self.assertRaises(NoLetter):
                watcher.tell(thing)
            self.assertEqual((watcher.said(), len(watcher), watcher.letters()), ("open", 1, [(T, F)]))
        self.assertEqual(watcher.tell((F, T)), "yes")
        with self.assertRaises(NoLetter):
            Watcher(DOOR, ("yes",)).tell((T,))

    def test_all_is_new(self):
        watcher = Watcher(DOOR, ("until", AJAR, PULL))
        watcher.tell((T, F))
        watcher.atoms().clear()
        watcher.letters().append(None)
        self.assertEqual((watcher.atoms(), watcher.letters()), ([AJAR, PULL], [(T, F)]))
        paper = Ladder(DOOR, ONCE).paper()
        watcher = Watcher(DOOR, ("or", ("not", PULL), ("not", AJAR)), knowing=(ONCE, paper))
        kept = copy.deepcopy(paper)
        paper[0].clear()
        paper[2].clear()
        twin = watcher.twin()
        self.assertEqual((watcher.said(), twin.said()), ("yes", "yes"))
        self.assertEqual((watcher.atoms(), twin.atoms()), ([PULL, AJAR], [PULL, AJAR]))
        self.assertTrue(is_joined(DOOR, ONCE, kept))

    def test_twins(self):
        paper = Ladder(DOOR, ONCE).paper()
        for knowing in (None, (ONCE, paper)):
            watcher = Watcher(DOOR, ("until", AJAR, ("and", PULL, PUSH)), knowing=knowing)
            watcher.tell((T, F, F))
            twin = watcher.twin()
            self.assertEqual((twin.said(), twin.letters(), twin.atoms(), len(twin)),
                             (watcher.said(), watcher.letters(), watcher.atoms(), 1))
            self.assertEqual(twin.tell((F, T, T)), "yes")
            self.assertEqual((watcher.said(), len(watcher)), ("open", 1))
            self.assertEqual(watcher.tell((F, F, F)), "no")
            self.assertEqual((twin.said(), len(twin), twin.letters()[1]), ("yes", 2, (F, T, T)))


UP = (("x",), (least(0, x=1),), (("m", ("a",), (("a", "up", (), (("x", line(1, x=1)),), "a"),)),), ())


def up_from(x):
    return ((("x", as_share(x)),), [rest_of(UP)], [move("up", 0)])


class Watched(unittest.TestCase):
    def test_words(self):
        saying = ("always", ("wish", above(3, x=-1)))
        self.assertEqual(watched(UP, saying, up_from(1)), ["open", "open", "open", "no"])
        self.assertEqual(watched(run=up_from(2), saying=saying, system=UP), ["open", "open", "no"])
        self.assertEqual(watched(UP, ("ever", ("deed", "up")), up_from(0)), ["open", "yes"])
        self.assertEqual(watched(UP, ("yes",), up_from(0)), ["yes", "yes"])

    def test_refusals(self):
        for thing in anything_but():
            with self.assertRaises(NoSystem):
                watched(thing, thing, thing)
            with self.assertRaises(NoSaying):
                watched(UP, thing, thing)
            with self.assertRaises(NoRound):
                watched(UP, ("yes",), thing)
        with self.assertRaises(NoRound):
            watched(UP, ("yes",), up_from(-1))
        with self.assertRaises(TooMany) as caught:
            watched(UP, ("always", ("wish", above(1001, x=-1))), up_from(0))
        self.assertEqual(caught.exception.many, 1001)
        self.assertEqual(len(watched(UP, ("always", ("wish", above(1000, x=-1))), up_from(0))), 1002)

    def test_as_a_watcher(self):
        chance = chance_of(40)
        for system, run in some_real_runs(chance, 60):
            atoms = atoms_over(system) + [("wish", least(chance.randint(-2, 2), x=sign)) for sign in (1, -1)]
            saying = some_saying_over(chance, atoms, 3)
            stem, lap = letters_of(system, run, atoms_of(saying))
            watcher = Watcher(system, saying)
            words = [watcher.tell(letter) for letter in stem + lap]
            self.assertEqual(watched(system, saying, run), words)
            if words[-1] != "open":
                self.assertEqual(holds(saying, (stem, lap)), words[-1] == "yes")

    def test_of_what_holds_no_watcher_says_no(self):
        chance = chance_of(41)
        many = 0
        for _ in range(40):
            system = some_small_system(chance)
            saying = some_saying_over(chance, atoms_over(system), 3)
            ladder = Ladder(system, saying)
            for run in itertools.islice(rounds_of(system, 3), 20):
                if ladder.word() == "holds" and counts(system, run):
                    words = watched(system, saying, run)
                    self.assertNotIn("no", words)
                    many += 1
                    other = some_saying_over(chance, atoms_over(system), 3)
                    watcher = Watcher(system, other, knowing=(saying, ladder.paper()))
                    stem, lap = letters_of(system, run, watcher.atoms())
                    told = [watcher.tell(letter) for letter in stem + lap]
                    row = letters_of(system, run, atoms_of(other))
                    if told[-1] != "open":
                        self.assertEqual(holds(other, row), told[-1] == "yes")
        self.assertGreater(many, 40)


if __name__ == "__main__":
    unittest.main()
