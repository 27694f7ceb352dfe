import copy
import itertools
import unittest
from fractions import Fraction

from glassladder.breaking import is_breaking
from glassladder.errors import NoHelp, NoSaying, NoSystem, TooMany
from glassladder.granting import can_be, contraries
from glassladder.joining import behind_one_another
from glassladder.ladder import RUNGS, Ladder
from glassladder.leading import led_back, led_begin
from glassladder.lines import line_plus, line_times
from glassladder.looker import look_at_joined
from glassladder.made import machine_of
from glassladder.rungs import is_rung, led_saying
from glassladder.sayings import atoms_of
from glassladder.steps import wishes_of
from glassladder.through import sought_by, table
from glassladder.together import together
from glassladder.unasked import unasked
from tests.machines import SYSTEM, saying_called, some_system, system_called, with_part
from tests.papers import atoms_over, rounds_of, some_saying_over, some_small_system
from tests.runs import some_counters, some_drifting_system
from tests.samples import above, anything_but, chance_of, just, least, line

WAYS = ((), ("unasked",), ("together",), RUNGS, ("together", "unasked"), ("together", "unasked", "together", "unasked"))
FALLS = ("not", ("always", ("ever", ("deed", "down"))))
FALLS_TOO = ("ever", ("always", ("not", ("deed", "down"))))


def counter(low=1, by=1, begins=(), fair=()):
    """A box that is counted down while it is low or more."""
    row = ("a", "down", (least(-Fraction(low), x=1),), (("x", line(-Fraction(by), x=1)),), "a")
    return (("x",), tuple(begins), (("m", ("a",), (row,)),), fair)


# x is doubled: that it stays above nought isn't seen, nor broken by a drifting round.
DOUBLED = (("x",), (least(-1, x=1),), (("m", ("a",), (
    ("a", "go", (least(-1, x=1),), (("x", line(0, x=2)),), "a"),)),), ("go",))
NOT_AGAIN = ("not", ("always", ("ever", ("deed", "go"))))
# One box is counted down, the other one set anew by whatever is read.
TWO = (("x", "y"), (), (("m", ("a",), (
    ("a", "down", (least(-1, x=1),), (("x", line(-1, x=1)), ("y", None)), "a"),
    ("a", "less", (least(-1, y=1),), (("y", line(-1, y=1)),), "a"))),), ())


def lowest_of(ladder, system):
    """The system at the lowest rung."""
    return ladder.rungs()[-1][2] if ladder.rungs() else system


def lowest_saying(ladder, saying):
    for rung in ladder.rungs():
        saying = led_saying(rung, saying)
    return saying


class Case(unittest.TestCase):
    def told(self, system, saying, ladder):
        """Holds what a ladder tells against the real text."""
        word = ladder.word()
        self.assertIn(word, ("going", "holds", "broken", "open"))
        self.assertEqual(ladder.paper() is not None, word == "holds")
        self.assertEqual(ladder.run() is not None, word == "broken")
        if word == "holds":
            self.assertIsNone(look_at_joined(system, saying, ladder.paper()))
        if word == "broken":
            self.assertTrue(is_breaking(system, saying, ladder.run()))
        self.assertEqual(len(ladder), ladder.gone())
        return word


class Made(Case):
    def test_names_and_what_is_left_out(self):
        self.assertEqual(RUNGS, ("unasked", "together"))
        ladder = Ladder(counter(), FALLS)
        self.assertEqual(self.told(counter(), FALLS, ladder), "holds")
        self.assertEqual([rung[0] for rung in ladder.rungs()], ["more", "same"])
        other = Ladder(rounds=20, laps=2, rungs=RUNGS, saying=FALLS, system=counter())
        self.assertEqual(other.paper(), ladder.paper())
        with self.assertRaises(TypeError):
            Ladder(counter(), FALLS, RUNGS)

    def test_no_system_then_no_saying(self):
        for thing in anything_but():
            with self.assertRaises(NoSystem):
                Ladder(thing, thing)
            with self.assertRaises(NoSystem):
                Ladder(thing, ("yes",), rungs=(), rounds=0)
            for way in WAYS:
                with self.assertRaises(NoSaying):
                    Ladder(SYSTEM, thing, rungs=way, rounds=0)

    def test_rungs_one_behind_the_other(self):
        idle = ("idle", ("p", "q"), (("p", "tick", (), (), "q"), ("q", "tick", (), (), "p")))
        system = with_part(counter(), 2, counter()[2] + (idle,))
        for words in WAYS:
            ladder = Ladder(system, FALLS, rungs=words)
            rungs = ladder.rungs()
            self.assertEqual(len(rungs), len(words))
            upper, saying = system, FALLS
            for word, rung in zip(words, rungs):
                self.assertEqual(rung, (unasked if word == "unasked" else together)(upper, saying))
                self.assertTrue(is_rung(rung))
                upper, saying = rung[2], led_saying(rung, saying)
            self.assertEqual(self.told(system, FALLS, ladder), "holds")
            if rungs:
                self.assertTrue(is_rung(behind_one_another(rungs)))

    def test_no_rounds(self):
        ladder = Ladder(counter(), FALLS, rounds=0)
        self.assertEqual((ladder.word(), ladder.gone(), len(ladder)), ("going", 0, 0))
        self.told(counter(), FALLS, ladder)
        ladder.go(0)
        self.assertEqual(ladder.gone(), 0)
        ladder.go()
        self.assertEqual((ladder.word(), ladder.gone()), ("going", 1))
        ladder.go(many=5)
        self.assertEqual((self.told(counter(), FALLS, ladder), ladder.gone()), ("holds", 2))
        ladder.go(10 ** 30)
        self.assertEqual((ladder.word(), ladder.gone(), len(ladder)), ("holds", 2, 2))

    def test_in_one_and_in_several_goes(self):
        begins = (least(0, x=1), least(3, x=-1))
        for system, saying in ((counter(begins=begins), FALLS), (TWO, ("not", ("always", ("ever", ("deed", "less"))))),
                               (DOUBLED, NOT_AGAIN)):
            for laps in (1, 2, 3, 4):
                whole = Ladder(system, saying, laps=laps, rounds=40)
                parts = Ladder(system, saying, laps=laps, rounds=0)
                for _ in range(40):
                    self.assertIsNone(parts.go())
                for one in ("word", "gone", "wishes", "ranks", "rungs", "paper", "run"):
                    self.assertEqual(getattr(whole, one)(), getattr(parts, one)())

    def test_first_wishes_are_the_sayings(self):
        saying = ("and", ("wish", least(3, x=2)), ("or", ("deed", "down"), ("wish", above(0, x=-1))))
        ladder = Ladder(counter(), saying, rounds=0)
        self.assertEqual(ladder.wishes(), [least(3, x=2), above(0, x=-1)])
        self.assertEqual(ladder.ranks(), [])


class Words(Case):
    def test_counters(self):
        shares = (1, 2, Fraction(3, 2), 0, -1, Fraction(-1, 3))
        lows = (0, 1, Fraction(5, 2), -3)
        all_begins = ((), (just(-3, x=1),), (least(0, x=1),), (least(0, x=-1),), (above(1, x=-1),), (just(-10, x=1),),
                      (above(0, x=1), above(0, x=-1)), (least(-3, x=1), least(7, x=-2)))
        for at, (low, by, begins) in enumerate(itertools.product(lows, shares, all_begins)):
            laps = at % 4 + 1
            fair = ("down",) if at % 3 == 0 else ()
            system, saying = counter(low, by, begins, fair), (FALLS, FALLS_TOO)[at % 2]
            ladder = Ladder(system, saying, laps=laps, rounds=3, rungs=WAYS[at % len(WAYS)])
            can = can_be(list(begins) + [least(-Fraction(low), x=1)])
            word = "broken" if by <= 0 and can else "holds"
            self.assertEqual(self.told(system, saying, ladder), word, (low, by, begins))

    def test_counters_by_each_of_the_laps(self):
        for laps in (1, 2, 3, 4):
            for many in range(8):
                system = counter(begins=(just(-many, x=1),))
                ladder = Ladder(system, FALLS, laps=laps, rounds=3)
                self.assertEqual(self.told(system, FALLS, ladder), "holds")
                up = counter(by=-1, begins=(just(-many, x=1),))
                self.assertEqual(self.told(up, FALLS, Ladder(up, FALLS, laps=laps, rounds=3)),
                                 "broken" if many else "holds")

    def test_without_boxes_in_the_first_round(self):
        chance = chance_of(31)
        seen = set()
        for _ in range(150):
            system = some_small_system(chance, 3)
            plain = [("wish", chance.choice((least, above))(chance.randint(-1, 1))) for _ in range(2)]
            saying = some_saying_over(chance, atoms_over(system) + plain, 4)
            words = set()
            for way in WAYS:
                ladder = Ladder(system, saying, rungs=way, rounds=1)
                words.add(self.told(system, saying, ladder))
                self.assertEqual(ladder.gone(), 1)
            self.assertEqual(len(words), 1)
            self.assertLessEqual(words, {"holds", "broken"})
            seen.update(words)
            broken = any(is_breaking(system, saying, run) for run in itertools.islice(rounds_of(system, 3), 60))
            if broken:
                self.assertEqual(ladder.word(), "broken")
        self.assertEqual(seen, {"holds", "broken"})

    def test_begins_without_boxes(self):
        system = ((), (least(-1),), (("m", ("a",), ()),), ())
        self.assertEqual(self.told(system, ("not", ("yes",)), Ladder(system, ("not", ("yes",)))), "holds")

    def test_ranks(self):
        saying = ("not", ("always", ("ever", ("or", ("deed", "down"), ("deed", "less")))))
        ladder = Ladder(TWO, saying)
        self.assertEqual(self.told(TWO, saying, ladder), "holds")
        self.assertEqual(sorted(ladder.ranks()), sorted([line(-1, x=1), line(-1, y=1)]))

    def test_sums_by_twos(self):
        # Each deed takes one of the one box and gives it to the other one, but for a half: just the sum falls.
        rows = (("a", "go", (least(0, x=1), least(0, y=1)), (("x", line(-3, x=1)), ("y", line(2, y=1))), "b"),
                ("b", "come", (least(0, x=1), least(0, y=1)), (("x", line(2, x=1)), ("y", line(-3, y=1))), "a"))
        system = (("x", "y"), (), (("m", ("a", "b"), rows),), ())
        saying = ("not", ("always", ("ever", ("deed", "go"))))
        for way in WAYS:
            ladder = Ladder(system, saying, rungs=way)
            self.assertEqual(self.told(system, saying, ladder), "holds")
            self.assertEqual(ladder.ranks(), [line(0, x=1, y=1)])

    def test_open(self):
        ladder = Ladder(DOUBLED, NOT_AGAIN)
        self.assertEqual(self.told(DOUBLED, NOT_AGAIN, ladder), "open")
        gone = ladder.gone()
        ladder.go(5)
        self.assertEqual((ladder.word(), ladder.gone()), ("open", gone))

    def test_wishes_between(self):
        # x is three at first; by four laps the path is barred, and one learns where x is.
        system = counter(begins=(just(-3, x=1),))
        ladder = Ladder(system, FALLS, laps=4, rounds=1)
        self.assertEqual(ladder.word(), "going")
        wishes = ladder.wishes()
        self.assertTrue(wishes)
        for word, one in wishes:
            self.assertIn(one[1][0][1], ((1, 1), (-1, 1)))
            self.assertIn(word, ("least", "above"))
        self.assertEqual(len(set(wishes)), len(wishes))
        for wish in wishes:
            self.assertNotIn(contraries(wish)[0], wishes)
        ladder.go()
        self.assertEqual(self.told(system, FALLS, ladder), "holds")
        self.assertEqual(ladder.ranks(), [])

    def test_scaled_by_a_share_above_nought(self):
        system = counter(low=Fraction(1, 3), by=Fraction(2, 3), begins=(least(Fraction(5, 7), x=Fraction(-3, 5)),))
        ladder = Ladder(system, FALLS, laps=3, rounds=1)
        for word, one in ladder.wishes():
            self.assertIn(one[1], ((("x", (1, 1)),), (("x", (-1, 1)),)))

    def test_more_than_eight_wishes(self):
        for many, word in ((8, "broken"), (9, "open")):
            saying = ("yes",)
            atoms = [("wish", above(-at, x=1)) for at in range(many)]
            saying = atoms[0]
            halves = [("and", atoms[0], atoms[1]), ("and", atoms[2], atoms[3]), ("and", atoms[4], atoms[5]),
                      ("and", atoms[6], atoms[7])]
            saying = ("and", ("and", halves[0], halves[1]), ("and", halves[2], halves[3]))
            if many == 9:
                saying = ("and", saying, atoms[8])
            system = counter(by=-1)
            ladder = Ladder(system, saying)
            self.assertEqual(self.told(system, saying, ladder), word)
            self.assertEqual(ladder.gone(), 1)
            self.assertEqual(len(ladder.wishes()), many)

    def test_entries_too_many(self):
        machines = []
        for name, deed, size in zip(("one", "two", "three", "four"), ("go", "come", "stay", "turn"), (5, 5, 4, 4)):
            places = tuple("abcdef"[:size])
            rows = tuple((place, deed, (), (), places[(at + 1) % size]) for at, place in enumerate(places))
            machines.append((name, places, rows))
        system = ((), (), tuple(machines), ())
        never = ("ever", ("not", ("yes",)))
        with self.assertRaises(TooMany):
            table(system, ("not", ("yes",)), [])
        ladder = Ladder(system, ("not", ("yes",)), rungs=())
        self.assertEqual((self.told(system, ("not", ("yes",)), ladder), ladder.gone()), ("open", 1))
        ladder = Ladder(system, never, rungs=())
        self.assertEqual((self.told(system, never, ladder), ladder.gone()), ("broken", 1))
        # With rungs nobody asks them.
        ladder = Ladder(system, ("not", ("yes",)))
        self.assertEqual(self.told(system, ("not", ("yes",)), ladder), "broken")

    def test_a_run_led_up(self):
        # Below a and c are one: above, the lap leads back to its places when it is gone twice.
        rows = (("a", "up", (), (("x", line(1, x=1)),), "b"), ("b", "up", (), (("x", line(1, x=1)),), "c"),
                ("c", "up", (), (("x", line(1, x=1)),), "a"))
        clock = ("clock", ("tick", "tock"), (("tick", "turn", (), (), "tock"), ("tock", "turn", (), (), "tick")))
        system = (("x",), (least(0, x=1),), (clock, ("m", ("a", "b", "c"), rows)), ())
        saying = ("not", ("always", ("ever", ("deed", "up"))))
        for way in WAYS:
            ladder = Ladder(system, saying, rungs=way)
            self.assertEqual(self.told(system, saying, ladder), "broken")
            if "together" in way:
                self.assertEqual(len(ladder.rungs()[-1][2][2][-1][1]), 1)
            deeds = [step[0] for step, reads, drifts in ladder.run()[2]]
            self.assertEqual(deeds.count("up") % 3, 0)

    def test_a_wish_that_turns_too_late(self):
        # The only runs in a round break it behind more laps than are looked at.
        system = counter(low=0, by=-1, begins=(just(0, x=1),), fair=("down",))
        for bound, word in ((900, "broken"), (1500, "open")):
            saying = ("always", ("wish", least(bound, x=-1)))
            ladder = Ladder(system, saying, rounds=2)
            if ladder.word() == "broken":
                self.told(system, saying, ladder)
            self.assertNotEqual(ladder.word(), "holds")
            self.assertIn(ladder.word(), (word, "going", "open"))

    def test_a_run_that_is_not_let_by(self):
        # It counts and breaks what is never so; but an atom of that turns behind more laps than are looked at.
        system = counter(low=0, by=-1, begins=(just(0, x=1),), fair=("down",))
        for bound, word in ((900, "broken"), (1500, "open")):
            saying = ("and", ("not", ("yes",)), ("wish", least(bound, x=-1)))
            for way in WAYS:
                ladder = Ladder(system, saying, rungs=way)
                self.assertEqual((self.told(system, saying, ladder), ladder.gone()), (word, 1))

    def test_the_stem_is_led_back_with_the_laps(self):
        # At first x is one, and `go` takes one of it: then the lap, which asks for one, is barred by both together.
        rows = (("a", "go", (), (("x", line(-1, x=1)),), "b"), ("b", "down", (least(-1, x=1),), (), "b"))
        system = (("x",), (just(-1, x=1),), (("m", ("a", "b"), rows),), ())
        for laps in (1, 2, 3, 4):
            ladder = Ladder(system, FALLS, laps=laps, rounds=1)
            self.assertEqual(ladder.word(), "going")
            self.assertTrue(ladder.wishes())
            ladder.go()
            self.assertEqual(self.told(system, FALLS, ladder), "holds")

    def test_rounds_that_learn_wishes(self):
        # Just those between the moments of the stem and so many laps, in order, scaled, but such as are there.
        chance = chance_of(70)
        seen = {"run": 0, "between": 0, "numbers": 0}
        for _ in range(150):
            system, atoms = some_case(chance)
            saying = some_saying(chance, system, atoms, 4)
            ladder = Ladder(system, saying, rounds=0, rungs=())
            while ladder.word() == "going" and len(ladder.wishes()) <= 8 and ladder.gone() < 6:
                found = table(system, saying, ladder.wishes())
                told = sought_by(system, saying, found, ladder.ranks())
                if told[0] == "why":
                    break
                choices, all_atoms = machine_of(saying)[0], atoms_of(saying)
                stem, lap = ([(tie[3], asked(all_atoms, choices[found[0][tie[0]][1]][tie[4]][0])) for tie in some]
                             for some in told[1:])
                back = led_back(system, (stem, lap))[0]
                begun = led_begin(system, stem + lap * 2)
                before = ladder.wishes()
                ladder.go()
                seen["run" if back == "run" else begun[0]] += 1
                if back == "run":
                    self.assertIn(ladder.word(), ("broken", "open"))
                    self.assertEqual(ladder.wishes(), before)
                elif begun[0] == "between":
                    more = []
                    for wish in [wish for some in begun[1] for wish in some if wish[1][1]]:
                        by = abs(Fraction(*wish[1][1][0][1]))
                        one = (wish[0], line_times(wish[1], (by.denominator, by.numerator)))
                        if one not in before + more and contraries(one)[0] not in before + more:
                            more.append(one)
                    self.assertEqual(ladder.wishes(), before + more)
                    self.assertEqual(ladder.word(), "going" if more else "open")
        self.assertGreater(min(seen.values()), 5, seen)

    def test_told_things_are_new(self):
        holds, broken = Ladder(counter(), FALLS), Ladder(counter(by=0), FALLS)
        for ladder in (holds, broken):
            before = {one: getattr(ladder, one)() for one in ("wishes", "ranks", "rungs", "paper", "run")}
            kept = copy.deepcopy(before)
            for one in ("wishes", "ranks", "rungs"):
                before[one].append(None)
            if before["paper"]:
                before["paper"][0].clear()
                before["paper"][2][0].clear()
                before["paper"][2].clear()
            if before["run"]:
                before["run"][1].append(None)
                before["run"][2].clear()
            self.assertEqual({one: getattr(ladder, one)() for one in kept}, kept)

    def test_equality(self):
        ladder = Ladder(counter(), FALLS)
        self.assertFalse(ladder == 5)
        self.assertFalse(ladder == "holds")


class Helped(Case):
    def test_a_line(self):
        # y is what x lacks to ten: a wish of neither tells that.
        rows = (("a", "down", (just(-10, x=1, y=1), least(0, z=1)), (("x", line(-1, x=1)), ("y", line(1, y=1)),
                                                                     ("z", line(Fraction(-1, 2), z=1))), "a"),)
        system = (("x", "y", "z"), (), (("m", ("a",), rows),), ())
        ladder = Ladder(system, FALLS)
        self.assertEqual(self.told(system, FALLS, ladder), "open")
        self.assertIsNone(ladder.helped(line(0, z=2)))
        self.assertEqual((ladder.word(), ladder.ranks()[-1]), ("going", line(0, z=2)))
        ladder.go()
        self.assertEqual(self.told(system, FALLS, ladder), "holds")

    def test_a_wish(self):
        # That x stays one or more is seen through this wish alone, and that it is broken by nothing.
        saying = ("always", ("wish", above(0, x=1)))
        ladder = Ladder(DOUBLED, saying)
        self.assertEqual(self.told(DOUBLED, saying, ladder), "open" if ladder.word() == "open" else "holds")
        ladder = Ladder(DOUBLED, NOT_AGAIN)
        wishes = ladder.wishes()
        ladder.helped(thing=above(-5, x=3))
        self.assertEqual((ladder.word(), ladder.wishes()), ("going", wishes + [above(-5, x=3)]))
        gone = ladder.gone()
        ladder.go()
        self.assertEqual(ladder.gone(), gone + 1)
        self.told(DOUBLED, NOT_AGAIN, ladder)

    def test_a_plain_line_and_wish(self):
        ladder = Ladder(DOUBLED, NOT_AGAIN)
        ladder.helped(line(3))
        self.assertEqual(ladder.ranks()[-1], line(3))
        ladder.go(20)
        self.assertEqual(ladder.word(), "open")
        ladder.helped(least(3))
        self.assertEqual(ladder.wishes()[-1], least(3))

    def test_no_help_where_it_is_not_open(self):
        for ladder in (Ladder(counter(), FALLS), Ladder(counter(by=0), FALLS), Ladder(counter(), FALLS, rounds=0)):
            before = (ladder.word(), ladder.gone(), ladder.wishes(), ladder.ranks())
            for thing in (least(0, x=1), line(0, x=1), None):
                with self.assertRaises(NoHelp):
                    ladder.helped(thing)
            self.assertEqual((ladder.word(), ladder.gone(), ladder.wishes(), ladder.ranks()), before)

    def test_no_help_of_anything_else(self):
        ladder = Ladder(DOUBLED, NOT_AGAIN)
        ladder.helped(least(-7, x=1))
        ladder.go(9)
        ladder.helped(line(4, x=7))
        ladder.go(9)
        self.assertEqual(ladder.word(), "open")
        before = (ladder.word(), ladder.gone(), ladder.wishes(), ladder.ranks())
        had = [least(-7, x=1), line(4, x=7)] + ladder.wishes() + ladder.ranks()
        for thing in anything_but() + had + [just(0, x=1), least(0, y=1), line(0, y=1), [least(0, x=1)],
                                             list(line(0, x=1)), ("least", line(0, y=1)), ("wish", least(2, x=1))]:
            with self.assertRaises(NoHelp):
                ladder.helped(thing)
        self.assertEqual((ladder.word(), ladder.gone(), ladder.wishes(), ladder.ranks()), before)

    def test_over_the_lowest_boxes(self):
        system = with_part(DOUBLED, 0, ("x", "y"))
        ladder = Ladder(system, NOT_AGAIN)
        self.assertEqual(ladder.word(), "open")
        for thing in (least(0, y=1), line(0, y=1)):
            with self.assertRaises(NoHelp):
                ladder.helped(thing)
        ladder = Ladder(system, NOT_AGAIN, rungs=())
        ladder.helped(least(0, y=1))
        self.assertEqual(ladder.wishes()[-1], least(0, y=1))


class Twins(Case):
    def test_go_on_by_themselves(self):
        ladder = Ladder(counter(), FALLS, rounds=1, laps=3, rungs=("together",))
        twin = ladder.twin()
        asked = ("word", "gone", "wishes", "ranks", "rungs", "paper", "run")

        def state(one):
            return [getattr(one, name)() for name in asked]

        self.assertEqual(state(twin), state(ladder))
        before = state(ladder)
        twin.go(5)
        self.assertEqual(twin.word(), "holds")
        self.assertEqual(state(ladder), before)
        ladder.go(5)
        self.assertEqual(state(twin), state(ladder))
        self.assertEqual(state(ladder.twin()), state(ladder))

    def test_helped_by_itself(self):
        ladder = Ladder(DOUBLED, NOT_AGAIN)
        twin = ladder.twin()
        twin.helped(least(5, x=1))
        self.assertEqual((ladder.word(), twin.word()), ("open", "going"))
        self.assertNotIn(least(5, x=1), ladder.wishes())
        ladder.helped(line(5, x=1))
        self.assertNotIn(line(5, x=1), twin.ranks())
        self.assertEqual(self.told(counter(by=0), FALLS, Ladder(counter(by=0), FALLS).twin()), "broken")


def some_case(chance):
    """A system by chance, and atoms over it."""
    kind = chance.random()
    makers = (some_small_system, some_drifting_system, some_counters, some_counters)
    system = chance.choice(makers)(chance) if kind < 0.8 else None
    while system is None:
        system = some_system(chance)
        if len(system[2]) > 3 or len(system[0]) > 2:
            system = None
    atoms = atoms_over(system)
    if system[0]:
        atoms += [("wish", chance.choice((least, above))(chance.randint(-1, 2), **{chance.choice(system[0]): sign}))
                  for sign in (1, -1)]
    return system, atoms


def some_saying(chance, system, atoms, most):
    """A saying by chance, often that a deed isn't done again and again."""
    deeds = [atom for atom in atoms if atom[0] == "deed"]
    if chance.random() < 0.5:
        return some_saying_over(chance, atoms, most)
    return ("not", ("always", ("ever", chance.choice(deeds))))


def asked(atoms, asks):
    """The wishes of a choice's asks."""
    some = [(atoms[n][1], truth) for n, truth in asks if atoms[n][0] == "wish"]
    return tuple(wish if truth else contraries(wish)[0] for wish, truth in some)


def lines_along(system, saying, found, lap):
    """The lines of all wishes of a lap's steps and choices, and their sums by twos."""
    atoms, choices = atoms_of(saying), machine_of(saying)[0]
    wishes = []
    for tie in lap:
        wishes.extend(wishes_of(system, tie[3]))
        for n, truth in choices[found[0][tie[0]][1]][tie[4]][0]:
            if atoms[n][0] == "wish":
                wishes.extend([atoms[n][1]] if truth else contraries(atoms[n][1]))
    lines = [one for word, one in wishes]
    return lines + [line_plus(one, other) for one in lines for other in lines]


class Promises(Case):
    def test_by_whatever_rungs_laps_and_rounds(self):
        chance = chance_of(32)
        seen = {}
        for _ in range(130):
            system, atoms = some_case(chance)
            saying = some_saying(chance, system, atoms, 4)
            words = set()
            for way in WAYS:
                ladder = Ladder(system, saying, rungs=way, laps=chance.randint(1, 4), rounds=chance.choice((1, 2, 6)))
                word = self.told(system, saying, ladder)
                words.add(word)
                seen[word] = seen.get(word, 0) + 1
            self.assertFalse({"holds", "broken"} <= words, (system, saying))
        self.assertGreater(min(seen["holds"], seen["broken"], seen["open"]), 10, seen)

    def test_a_saying_and_its_not(self):
        chance = chance_of(33)
        for _ in range(80):
            system, atoms = some_case(chance)
            saying = some_saying(chance, system, atoms, 3)
            words = [Ladder(system, one, rounds=4).word() for one in (saying, ("not", saying))]
            if words == ["holds", "holds"]:
                # Then no run counts: none breaks a saying that is never so.
                self.assertNotEqual(Ladder(system, ("not", ("yes",)), rounds=4).word(), "broken")

    def test_fewer_fair_deeds(self):
        chance = chance_of(34)
        for _ in range(80):
            system, atoms = some_case(chance)
            saying = some_saying(chance, system, atoms, 3)
            deeds = sorted({row[1] for machine in system[2] for row in machine[2]})
            fewer = tuple(deed for deed in deeds if chance.random() < 0.3)
            more = tuple(deed for deed in deeds if deed in fewer or chance.random() < 0.5)
            words = [Ladder(with_part(system, 3, fair), saying, rounds=4).word() for fair in (fewer, more)]
            self.assertNotEqual(words, ["holds", "broken"])

    def test_called_otherwise(self):
        chance = chance_of(35)
        same = 0
        for _ in range(80):
            system, atoms = some_case(chance)
            saying = some_saying(chance, system, atoms, 3)
            order = list(range(len(system[2])))
            chance.shuffle(order)
            other = system_called(system, order)
            words = [Ladder(system, saying, rounds=4).word(), Ladder(other, saying_called(saying), rounds=4).word()]
            self.assertNotIn(sorted(words), [["broken", "holds"]])
            same += words[0] == words[1]
        self.assertGreater(same, 60)

    def test_rounds_as_told(self):
        # What a round comes to, gone here by the table, what is sought in it, and what is learnt.
        chance = chance_of(36)
        seen = {}
        for _ in range(120):
            system, atoms = some_case(chance)
            saying = some_saying(chance, system, atoms, 3)
            ladder = Ladder(system, saying, rounds=0, laps=chance.randint(1, 4))
            lowest, led = lowest_of(ladder, system), lowest_saying(ladder, saying)
            self.assertEqual(ladder.wishes(), [atom[1] for atom in atoms_of(led) if atom[0] == "wish"])
            while ladder.word() == "going" and len(ladder.wishes()) <= 8 and ladder.gone() < 5:
                wishes, ranks = ladder.wishes(), ladder.ranks()
                found = table(lowest, led, wishes)
                told = sought_by(lowest, led, found, ranks)
                ladder.go()
                word = ladder.word()
                self.assertEqual(told[0] == "why", word == "holds")
                more, lines = ladder.wishes()[len(wishes):], ladder.ranks()[len(ranks):]
                self.assertEqual((ladder.wishes()[:len(wishes)], ladder.ranks()[:len(ranks)]), (wishes, ranks))
                self.assertEqual(bool(more) + len(lines), word == "going")
                for at, (kind, one) in enumerate(more):
                    self.assertIn(one[1][0][1], ((1, 1), (-1, 1)))
                    self.assertNotIn((kind, one), wishes + more[:at])
                    self.assertNotIn(contraries((kind, one))[0], wishes + more[:at])
                for one in lines:
                    self.assertNotIn(one, ranks)
                    self.assertIn(one, lines_along(lowest, led, found, told[2]))
                    # It lets a tie of the lap fall: so another lap is found, or none.
                    again = sought_by(lowest, led, found, ranks + lines)
                    self.assertNotEqual(again, told)
                seen[(word, bool(more), bool(lines))] = seen.get((word, bool(more), bool(lines)), 0) + 1
        self.assertEqual(len(seen), 5, seen)


if __name__ == "__main__":
    unittest.main()
