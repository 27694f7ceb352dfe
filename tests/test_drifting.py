import copy
import unittest
from fractions import Fraction

from glassladder.drifting import MOST_LAPS, counts, is_run, letters_of
from glassladder.errors import GlassError, NoRound, NoSystem, TooMany
from glassladder.rounds import holds
from glassladder.sayings import atoms_of
from tests.machines import BARE, SYSTEM, some_system, with_part
from tests.runs import (
    is_run_by_laps, letters_by_laps, move, pairs, rest_of, some_drifting_system, some_plain_run, some_real_runs,
    some_run,
)
from tests.samples import above, anything_but, chance_of, just, least, line
from tests.test_rounds import judged

# x is counted up or down, y read; the wishes look at what drifts.
ROWS = (
    ("a", "up", (), (("x", line(1, x=1)),), "a"),
    ("a", "down", (least(-1, x=1),), (("x", line(-1, x=1)),), "a"),
    ("a", "go", (), (("y", None),), "b"),
    ("b", "back", (above(0, y=1),), (("x", line(0, x=1, y=1)),), "a"),
    ("a", "same", (just(0, x=1, y=-1),), (), "a"),
    ("a", "take", (), (("x", line(0, y=1)),), "a"),
    ("a", "both", (just(0, x=1, y=-1),), (("x", line(2, x=1)), ("y", line(2, y=1))), "a"),
    ("b", "stay", (least(5, x=-1),), (), "b"),
)
ONE = (("x", "y"), (least(0, x=1),), (("m", ("a", "b"), ROWS),), ("up",))
X = ("wish", least(0, x=1))
AT = ("place", "m", "a")


def at_first(x, y=0):
    return pairs((("x", x), ("y", y)))


UP, DOWN, SAME, TAKE, BOTH = move("up", 0), move("down", 1), move("same", 4), move("take", 5), move("both", 6)
REST = rest_of(ONE)


def go(y, by=0):
    return move("go", 2, reads=(("y", y),), drifts=(("y", by),))


BACK, STAY = move("back", 3), move("stay", 7)
REAL = (
    (at_first(0), [], [UP]), (at_first(0), [], [REST]), (at_first(5), [UP, DOWN], [UP, REST, UP]),
    (at_first(1), [], [DOWN, UP]), (at_first(1), [REST], [UP, DOWN, UP]), (at_first(Fraction(1, 2)), [UP], [REST]),
    (at_first(0, 7), [], [go(7), BACK]), (at_first(0, 7), [TAKE], [TAKE]), (at_first(3, 3), [], [SAME]),
    (at_first(3, 3), [SAME, UP, DOWN], [SAME, BOTH]), (at_first(0, 1), [], [go(1), BACK, UP]),
    (at_first(0, 2), [go(5)], [REST, STAY]), (at_first(5, 5), [go(1)], [STAY]),
)


class ByHand(unittest.TestCase):
    def test_real_runs(self):
        for run in REAL:
            before = copy.deepcopy(run)
            self.assertIs(is_run(ONE, run), True, run)
            self.assertTrue(is_run_by_laps(ONE, run, 50), run)
            self.assertEqual(run, before)
        self.assertIs(is_run(thing=((), [], [rest_of(BARE)]), system=BARE), True)

    def test_reads_with_drifts(self):
        # What is read in each lap is more by one, and so is the end of each lap: the numbers drift alike.
        system = (("y",), (), (("m", ("a",), (("a", "go", (least(0, y=1),), (("y", None),), "a"),)),), ())

        def read(first, by):
            return move("go", 0, reads=(("y", first),), drifts=(("y", by),))
        for first, one, by, truth in ((0, 1, 1, True), (0, 1, 0, False), (0, 1, 2, False), (0, 2, 1, False),
                                      (0, 0, 0, True), (3, Fraction(7, 2), Fraction(1, 2), True), (0, -1, -1, False),
                                      (5, 4, -1, False), (-1, 0, 1, False)):
            run = (pairs((("y", first),)), [], [read(one, by)])
            self.assertIs(is_run(system, run), truth, run)
        self.assertIs(is_run(system, (pairs((("y", 9),)), [read(2, 0)], [read(3, 1)])), True)
        self.assertIs(is_run(system, (pairs((("y", 9),)), [read(2, 1)], [read(3, 1)])), False)
        self.assertIs(is_run(system, (pairs((("y", 9),)), [read(2, 0)], [read(7, 0), read(3, 1)])), True)

    def not_run(self, *run):
        self.assertIs(is_run(ONE, run), False, run)

    def test_no_lap(self):
        self.not_run(at_first(0), [], [])
        self.not_run(at_first(0), [UP], [])

    def test_begins_not_granted(self):
        self.not_run(at_first(-1), [], [UP])
        self.not_run(at_first(Fraction(-1, 100)), [], [REST])

    def test_wishes_not_granted(self):
        self.not_run(at_first(0), [DOWN], [UP])
        self.not_run(at_first(0), [], [DOWN, UP])
        self.not_run(at_first(1), [DOWN, DOWN], [UP])
        self.not_run(at_first(3, 2), [SAME], [REST])
        self.not_run(at_first(6, 6), [go(1)], [STAY])

    def test_wishes_that_fall_from_lap_to_lap(self):
        self.not_run(at_first(1), [], [DOWN])
        self.not_run(at_first(1000000), [], [DOWN])
        self.not_run(at_first(1000000), [], [DOWN, DOWN, UP])
        self.assertIs(is_run(ONE, (at_first(1), [], [DOWN, UP, UP])), True)
        self.not_run(at_first(5), [], [go(9, -1), BACK])

    def test_just_with_a_drift(self):
        self.not_run(at_first(3, 3), [], [SAME, UP])
        self.not_run(at_first(3, 3), [], [UP, DOWN, UP, SAME])
        self.assertIs(is_run(ONE, (at_first(3, 3), [], [UP, DOWN, SAME])), True)
        self.assertIs(is_run(ONE, (at_first(3, 3), [], [BOTH, SAME])), True)

    def test_granted_just_at_the_edge(self):
        self.assertIs(is_run(ONE, (at_first(1), [DOWN], [REST])), True)
        self.not_run(at_first(Fraction(99, 100)), [DOWN], [REST])
        self.assertIs(is_run(ONE, (at_first(0, 9), [], [go(9), BACK])), True)
        self.not_run(at_first(0, 0), [], [go(0), BACK])

    def test_another_drift_in_the_second_lap(self):
        self.not_run(at_first(0, 5), [], [TAKE])
        self.assertIs(is_run(ONE, (at_first(5, 5), [], [TAKE])), True)
        self.not_run(at_first(0, 5), [], [TAKE, UP])
        self.assertIs(is_run(ONE, (at_first(6, 5), [], [TAKE, UP])), True)
        double = (("x",), (), (("m", ("a",), (("a", "go", (), (("x", line(0, x=2)),), "a"),)),), ())
        self.assertIs(is_run(double, (pairs((("x", 0),)), [], [move("go", 0)])), True)
        self.assertIs(is_run(double, (pairs((("x", 1),)), [], [move("go", 0)])), False)

    def test_places(self):
        self.not_run(at_first(0), [], [BACK])
        self.not_run(at_first(0), [BACK], [REST])
        self.not_run(at_first(0, 1), [], [go(1)])
        self.not_run(at_first(0, 1), [go(1)], [BACK])
        self.not_run(at_first(0, 1), [go(1)], [UP])
        self.not_run(at_first(0, 1), [go(1)], [BACK, UP])
        self.assertIs(is_run(ONE, (at_first(0, 1), [go(1)], [BACK, UP, go(1)])), True)


class OfAnything(unittest.TestCase):
    GOOD = (at_first(0, 1), [UP, go(1)], [BACK, UP, go(1)])

    def not_run(self, thing):
        self.assertIs(is_run(ONE, thing), False, thing)
        for ask in (counts, lambda system, run: letters_of(system, run, [AT, X])):
            with self.assertRaises(NoRound) as caught:
                ask(ONE, thing)
            self.assertIsInstance(caught.exception, GlassError)

    def test_good(self):
        self.assertIs(is_run(ONE, self.GOOD), True)

    def test_the_whole_and_its_three_parts(self):
        for thing in anything_but():
            self.not_run(thing)
            for at in range(3):
                if not (at == 1 and thing == []):
                    self.not_run(with_part((at_first(0), [], [UP]), at, thing))
        for thing in (list(self.GOOD), self.GOOD[:2], self.GOOD + ([],), (self.GOOD[0], (), self.GOOD[2]),
                      (at_first(0), [], (UP,)), (dict(at_first(0)), [], [UP])):
            self.not_run(thing)

    def test_numbers(self):
        for numbers in (at_first(0)[:1], at_first(0) * 2, at_first(0)[::-1], at_first(0) + pairs((("z", 0),)),
                        list(at_first(0)), (("x", (0, 1)), ("y", (2, 2))), (("x", (0, 1)), ("y", (0, True))),
                        (("x", 0), ("y", 0)), (("x", (0, 1)), ["y", (0, 1)]), (("x", (0, 1)), ("y", (0, 1), ())),
                        (("x", (0, 1)), ("y", None)), (("x", (False, 1)), ("y", (0, 1))), ()):
            self.not_run((numbers, [], [UP]))

    def test_moves(self):
        step, reads, drifts = go(1)
        others = [
            step, (step,), (step, reads), (step, reads, drifts, ()), [step, reads, drifts], (step, reads, ()),
            (step, (), drifts), (step, (), ()), (step, reads * 2, drifts), (step, reads, drifts * 2),
            (step, pairs((("x", 1),)), drifts), (step, reads, pairs((("x", 0),))), (step, list(reads), drifts),
            (step, reads, list(drifts)), (step, dict(reads), drifts), (step, (("y", 1),), drifts),
            (step, (("y", (2, 2)),), drifts), (step, reads, (("y", 0),)), (step, reads, (("y", (0, 2)),)),
            (step, (["y", (1, 1)],), drifts), (step, reads, (("y", (False, 1)),)), (("go", (2, 2)), reads, drifts),
            (("go", (True,)), reads, drifts), (("go", [2]), reads, drifts), (("no", (2,)), reads, drifts),
            (("go", (None,)), reads, drifts), (("go", (3,)), reads, drifts), (("up", (False,)), (), ()),
            (("up", (0,)), reads, drifts), (("up", (0,)), reads, ()), (("up", (0,)), (), drifts),
            (("rest", (0,)), (), ()), (("rest", ()), (), ()),
            (("rest", (None,)), pairs((("x", 0),)), pairs((("x", 0),))),
        ]
        for thing in others + anything_but():
            self.not_run((at_first(0, 1), [], [thing, BACK]))
            self.not_run((at_first(0, 1), [thing], [BACK, go(1)]))
            self.not_run((at_first(0, 1), [], [UP, thing]))
            self.not_run((at_first(0, 1), [thing], [UP]))

    def test_one_thing_put_otherwise_left_out_or_twice(self):
        numbers, stem, lap = self.GOOD
        self.not_run((numbers, stem[1:] * 2, lap))
        self.not_run((numbers, stem[:1], lap))
        self.not_run((numbers, stem, lap[:2]))
        self.not_run((numbers, stem, lap[1:]))
        self.not_run((numbers, stem, lap[:1] + lap))
        self.not_run((numbers, stem, lap + lap[2:]))
        self.not_run((numbers, [UP, go(0)], lap))
        self.not_run((numbers, stem, [BACK, UP, go(2)]))
        self.not_run((numbers, stem, [BACK, UP, go(1, 1)]))
        self.not_run((numbers, [UP, go(1, 1)], lap))
        self.assertIs(is_run(ONE, (numbers, stem + lap, lap * 2)), True)

    def test_several_machines(self):
        chance = chance_of(111)
        for _ in range(40):
            system, run = some_plain_run(chance)
            self.assertIs(is_run(system, run), True)
            with_more = (run[0], run[1], [(run[2][0][0], (), (), ())])
            self.assertIs(is_run(system, with_more), False)
            self.assertIs(is_run(system, (run[0], [], [(("rest", (None,) * (len(system[2]) + 1)), (), ())])), False)

    def test_no_system_goes_first(self):
        for thing in anything_but() + [with_part(ONE, 3, ("no",))]:
            for run in (None, self.GOOD):
                for ask in (is_run, counts, lambda system, one: letters_of(system, one, [])):
                    with self.assertRaises(NoSystem):
                        ask(thing, run)


class Counts(unittest.TestCase):
    def test_counts(self):
        for fair, lap, truth in (((), [REST], True), (("up",), [REST], False), (("up",), [UP], True),
                                 (("down", "up"), [UP], False), (("down", "up"), [UP, REST, DOWN], True),
                                 (("same",), [UP, DOWN], False), (("down", "same", "up"), [SAME, UP, DOWN], True)):
            system = with_part(ONE, 3, fair)
            run = (at_first(3, 3), [UP, DOWN, SAME], lap)
            self.assertIs(counts(system, run), truth, (fair, lap))
            self.assertIs(counts(run=run, system=system), truth)


class Letters(unittest.TestCase):
    def check(self, run, atoms, laps, system=ONE):
        """The letters are those of the run gone on, and there are so many laps in the stem."""
        before = copy.deepcopy(run)
        stem, lap = letters_of(system, run, atoms)
        self.assertEqual((len(stem), len(lap)), (len(run[1]) + laps * len(run[2]), len(run[2])))
        self.assertEqual(run, before)
        many = laps + 12
        gone = letters_by_laps(system, run, atoms, many)
        self.assertEqual(stem + lap * (many - laps), gone)
        if laps:
            self.assertNotEqual(stem[-len(lap):], lap)
        return stem, lap

    def test_that_never_differ(self):
        for run in REAL:
            self.check(run, [], 0)
            self.check(run, [AT, ("place", "m", "b"), ("deed", "up"), ("deed", "rest")], 0)
        self.check((at_first(0), [], [UP, REST]), [X, ("wish", above(1, x=1))], 0)
        self.check((at_first(5), [UP], [UP, DOWN]), [X, ("wish", above(-6, x=1)), ("wish", least(-7, x=1))], 0)

    def test_letters_by_hand(self):
        run = (at_first(0, 1), [UP], [go(1), BACK])
        atoms = [AT, ("deed", "go"), ("wish", least(-3, x=1))]
        self.assertEqual(letters_of(atoms=atoms, run=run, system=ONE), (
            [(True, False, False), (True, True, False), (False, False, False), (True, True, False),
             (False, False, False)], [(True, True, True), (False, False, True)]))
        self.assertEqual(letters_of(ONE, (at_first(0), [], [UP]), []), ([], [()]))

    def test_wishes_that_turn_some_laps_later(self):
        run = (at_first(0), [], [UP])
        for wish, laps in ((least(-1, x=1), 1), (above(-1, x=1), 2), (above(0, x=1), 1), (least(0, x=1), 0),
                           (least(1, x=-1), 2), (above(1, x=-1), 1), (above(0, x=-1), 0), (least(0, x=-1), 1),
                           (least(Fraction(-5, 2), x=1), 3), (above(Fraction(-5, 2), x=1), 3), (least(-7, x=2), 4),
                           (above(-8, x=2), 5), (least(7, x=-2), 4), (above(8, x=-2), 4), (least(8, x=-2), 5),
                           (least(-9), 0), (above(0, y=1), 0), (least(-3, x=Fraction(1, 3)), 9)):
            self.check(run, [("wish", wish)], laps)
            self.check((at_first(0), [], [UP, UP]), [("wish", wish), AT], -(-self.turned_at(wish, 0) // 2))
        self.check(run, [("wish", least(-3, x=1)), ("wish", least(-5, x=1)), ("wish", least(2, x=-1))], 5)

    def turned_at(self, wish, first):
        """The last of the first moments at which the wish isn't as it stays, and one, where x is one more each time."""
        truths = [letters[0] for letters in letters_by_laps(ONE, (at_first(first), [], [UP]), [("wish", wish)], 40)]
        return max([at + 1 for at, truth in enumerate(truths) if truth != truths[-1]], default=0)

    def test_reads_that_drift(self):
        system = (("y",), (), (("m", ("a",), (("a", "go", (), (("y", None),), "a"),)),), ())
        run = (pairs((("y", 0),)), [], [move("go", 0, reads=(("y", 30),), drifts=(("y", -2),)),
                                        move("go", 0, reads=(("y", -2),), drifts=(("y", -2),))])
        self.check(run, [("wish", least(0, y=1)), ("wish", above(9, y=1))], 20, system)

    def test_the_thousandth_lap(self):
        self.assertEqual(MOST_LAPS, 1000)
        run = (at_first(0), [], [UP])
        self.check(run, [("wish", least(-1000, x=1))], 1000)
        self.check(run, [("wish", above(-999, x=1))], 1000)
        self.check(run, [("wish", least(999, x=-1))], 1000)
        self.check((at_first(0), [UP], [REST, UP]), [("wish", least(-1001, x=1))], 1000)
        for wish, many in ((least(-1001, x=1), 1001), (above(-1000, x=1), 1001), (least(1000, x=-1), 1001),
                           (least(Fraction(-2001, 2), x=1), 1001), (least(-10 ** 90, x=1), 10 ** 90),
                           (above(-10 ** 90, x=1), 10 ** 90 + 1)):
            with self.assertRaises(TooMany) as caught:
                letters_of(ONE, run, [AT, ("wish", wish), X])
            self.assertEqual(caught.exception.many, many)
            self.assertIsInstance(caught.exception, OverflowError)

    def test_too_many_tells_the_most(self):
        atoms = [("wish", least(-1500, x=1)), ("wish", least(-3000, x=1)), ("wish", least(-2000, x=1))]
        with self.assertRaises(TooMany) as caught:
            letters_of(ONE, (at_first(0), [], [UP]), atoms)
        self.assertEqual(caught.exception.many, 3000)

    def test_told_lists_are_new_ones(self):
        run = (at_first(0), [UP], [UP])
        atoms = [("wish", least(-4, x=1))]
        stem, lap = letters_of(ONE, run, atoms)
        kept = (list(stem), list(lap))
        stem.clear()
        lap.append(None)
        self.assertEqual(letters_of(ONE, run, atoms), kept)
        self.assertEqual((run, atoms), ((at_first(0), [UP], [UP]), [("wish", least(-4, x=1))]))


class ByChance(unittest.TestCase):
    def test_is_run(self):
        chance = chance_of(112)
        truths = []
        for _ in range(1500):
            system = some_drifting_system(chance)
            run = some_run(chance, system)
            truth = is_run_by_laps(system, run, 40)
            self.assertIs(is_run(system, run), truth, (system, run))
            truths.append(truth)
        self.assertGreater(truths.count(True), 200)
        self.assertGreater(truths.count(False), 200)

    def test_letters_and_sayings_on_them(self):
        chance = chance_of(113)
        drifted = 0
        for system, run in some_real_runs(chance, 150):
            wishes = [("wish", (chance.choice(("least", "above")), line(chance.randint(-9, 4), **{
                system[0][-1]: chance.choice((1, 1, -1))}))) for _ in range(2)]
            saying = ("until", ("or", wishes[0], ("deed", "rest")), ("and", AT, ("always", ("ever", wishes[1]))))
            atoms = atoms_of(saying)
            row = letters_of(system, run, atoms)
            laps = (len(row[0]) - len(run[1])) // len(run[2])
            many = laps + 6
            self.assertEqual(row[0] + row[1] * (many - laps), letters_by_laps(system, run, atoms, many))
            drifted += laps > 0
            self.assertIs(holds(saying, row), judged(saying, atoms, row[0] + row[1], len(row[0]), 0))
            self.assertIs(counts(system, run), all(deed in [one[0][0] for one in run[2]] for deed in system[3]))
        self.assertGreater(drifted, 20)

    def test_of_several_machines(self):
        chance = chance_of(114)
        for _ in range(30):
            system = some_system(chance)
            self.assertIs(is_run(system, (pairs((box, 10 ** 6) for box in system[0]), [], [])), False)
        self.assertIs(is_run(SYSTEM, (pairs((("x", 3), ("y", 0), ("z", 0))), [move("ask", 1, None, None,
                      reads=(("x", 2),))], [rest_of(SYSTEM)])), True)


if __name__ == "__main__":
    unittest.main()
