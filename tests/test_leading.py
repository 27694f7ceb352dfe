import copy
import unittest
from fractions import Fraction

from glassladder.drifting import is_run
from glassladder.errors import NoSystem
from glassladder.granting import can_be, follows, put_all
from glassladder.leading import led_back, led_begin
from glassladder.real import Real
from glassladder.steps import steps_from, wishes_of
from tests.machines import SYSTEM, some_system, with_part
from tests.runs import is_run_by_laps, moments, rest_of, some_drifting_system, some_real_runs
from tests.samples import above, anything_but, as_share, chance_of, is_granted, just, least, line

REST = ("rest", (None,))
GO = ("go", (0,))
BARRED = ("barred",)


def one_row(sets, wishes=(), begins=(), boxes=("x", "y")):
    """A system of one place and one row."""
    return (boxes, begins, (("m", ("a",), (("a", "go", wishes, sets, "a"),)),), ())


def path_of(run, asks=()):
    """The path of a run, with the same asks at all moments."""
    return tuple([(step, asks) for step, reads, drifts in moves] for moves in run[1:])


def is_gone_by(system, path, run, laps=40):
    """Whether a run goes just the path, for so many laps, and asks are granted at all moments."""
    stem, lap = path
    steps = [[step for step, asks in moves] for moves in path]
    if [[step for step, reads, drifts in moves] for moves in run[1:]] != steps:
        return False
    rows = stem + lap * laps
    here = moments(system, run, laps)[0]
    return all(is_granted(wish, numbers) for (step, asks), (places, numbers, done, can) in zip(rows, here)
               for wish in asks)


class LedBack(unittest.TestCase):
    def gone(self, system, path):
        before = copy.deepcopy(path)
        word, run = led_back(system, path)
        self.assertEqual(word, "run")
        self.assertEqual(path, before)
        self.assertTrue(is_run(system, run), run)
        self.assertTrue(is_run_by_laps(system, run, 40))
        self.assertTrue(is_gone_by(system, path, run))
        return run

    def barred(self, system, path):
        before = copy.deepcopy(path)
        self.assertEqual(led_back(system, path), BARRED)
        self.assertEqual(path, before)

    def test_rest(self):
        run = self.gone(one_row(()), ([], [(REST, ())]))
        self.assertEqual(run[1:], ([], [(REST, (), ())]))
        self.assertEqual(led_back(path=([], [(REST, ())]), system=one_row(()))[0], "run")

    def test_without_boxes(self):
        system = one_row((), boxes=())
        self.assertEqual(led_back(system, ([(GO, ())], [(GO, ()), (REST, ())])),
                         ("run", ((), [(GO, (), ())], [(GO, (), ()), (REST, (), ())])))
        self.barred(one_row((), wishes=(least(-1),), boxes=()), ([], [(GO, ())]))
        self.barred(one_row((), begins=(least(-1),), boxes=()), ([], [(REST, ())]))

    def test_begins(self):
        for begins in ((least(-3, x=1), least(3, x=-1)), (just(-3, x=1),)):
            run = self.gone(one_row((), begins=begins), ([(GO, ())], [(REST, ())]))
            self.assertEqual(dict(run[0])["x"], (3, 1))
        self.barred(one_row((), begins=(above(0, x=1), above(0, x=-1))), ([], [(REST, ())]))

    def test_drifting_up_and_down(self):
        up = one_row((("x", line(1, x=1)),), wishes=(least(-5, x=1),))
        self.gone(up, ([], [(GO, ())]))
        down = one_row((("x", line(-1, x=1)),), wishes=(least(-5, x=1),))
        self.barred(down, ([], [(GO, ())]))
        # In the stem one may go down; and with nothing that asks for x.
        self.gone(down, ([(GO, ()), (GO, ())], [(REST, ())]))
        self.gone(one_row((("x", line(-1, x=1)),), wishes=(least(5, x=-1),)), ([], [(GO, ())]))

    def test_asks(self):
        up = one_row((("x", line(1, x=1)),))
        run = self.gone(up, ([(GO, (above(7, x=-1),)), (GO, (least(-5, x=1),))], [(GO, (above(-8, x=1),))]))
        self.assertGreater(Fraction(*dict(run[0])["x"]), 6)
        # A lap's asks are granted in all laps, a stem's at that moment.
        self.barred(up, ([], [(GO, (above(7, x=-1),))]))
        self.gone(up, ([(GO, (just(-1, x=1),))], [(GO, ())]))
        self.barred(up, ([(GO, (just(-1, x=1),)), (GO, (just(-1, x=1),))], [(GO, ())]))
        self.barred(up, ([], [(GO, (just(-1, x=1),))]))
        self.gone(up, ([], [(GO, (just(-1, y=1),))]))
        self.barred(up, ([], [(GO, (least(-1, y=1), above(1, y=-1)))]))

    def test_just_as_a_steps_wish(self):
        level = one_row((("x", line(2, x=1)), ("y", line(2, y=1))), wishes=(just(1, x=1, y=-1),))
        self.gone(level, ([], [(GO, (least(-4, x=1),))]))
        self.barred(one_row((("x", line(1, x=1)),), wishes=(just(1, x=1, y=-1),)), ([], [(GO, ())]))

    def test_doubled_and_halved(self):
        doubled = one_row((("x", line(0, x=2)),))
        run = self.gone(doubled, ([], [(GO, ())]))
        self.assertEqual(dict(run[0])["x"], (0, 1))
        self.barred(doubled, ([], [(GO, (above(0, x=1),))]))
        halved = one_row((("x", line(1, x="1/2")),))
        run = self.gone(halved, ([], [(GO, (above(0, x=1),))]))
        self.assertEqual(dict(run[0])["x"], (2, 1))
        self.barred(halved, ([], [(GO, (above(-2, x=1),))]))
        self.gone(doubled, ([(GO, (above(0, x=1),))], [(REST, ())]))
        self.barred(one_row((("y", line(0, y=2)),)), ([], [(GO, (above(0, y=1),))]))

    def test_set_to_another_boxs_number(self):
        taken = one_row((("x", line(1, y=1)), ("y", line(0, x=1))))
        run = self.gone(taken, ([], [(GO, ())]))
        # Behind two steps both are more by one: so by a half behind each of them.
        self.gone(taken, ([], [(GO, (least(-5, x=1),)), (GO, ())]))
        self.assertEqual(Fraction(*dict(run[0])["x"]) - Fraction(*dict(run[0])["y"]), Fraction(1, 2))

    def test_read(self):
        read = one_row((("x", None), ("y", line(0, x=1))), wishes=(least(0, x=1, y=-1),))
        run = self.gone(read, ([(GO, ())], [(GO, ())]))
        self.assertEqual([[len(reads) for step, reads, drifts in moves] for moves in run[1:]], [[1], [1]])
        # What is read may drift: x rises by one or more from lap to lap.
        rises = one_row((("x", None), ("y", line(0, x=1))), wishes=(least(-1, x=1, y=-1),))
        run = self.gone(rises, ([], [(GO, ())]))
        self.assertGreaterEqual(Fraction(*run[2][0][2][0][1]), 1)
        self.barred(rises, ([], [(GO, (least(9, x=-1),))]))
        run = self.gone(rises, ([(GO, ())], [(GO, ()), (GO, (least(-3, x=1),)), (REST, ())]))
        self.assertEqual(run[1][0][2], (("x", (0, 1)),))
        # Of what is read at one moment nothing is asked.
        self.gone(one_row((("x", None),)), ([(GO, ())], [(GO, ())]))

    def test_steps_that_cannot_stand(self):
        system = ((), (), (("m", ("a", "b"), (("a", "go", (), (), "b"), ("b", "come", (), (), "a"))),), ())
        come = ("come", (1,))
        self.gone(system, ([], [(GO, ()), (come, ())]))
        self.gone(system, ([(GO, ())], [(REST, ())]))
        self.gone(system, ([(GO, ())], [(come, ()), (REST, ()), (GO, ())]))
        self.barred(system, ([], [(come, ())]))
        self.barred(system, ([(come, ())], [(REST, ())]))
        self.barred(system, ([(GO, ())], [(GO, ())]))
        self.barred(system, ([(GO, ()), (GO, ())], [(REST, ())]))
        # The lap leads back to its places, or it is barred.
        self.barred(system, ([], [(GO, ())]))
        self.barred(system, ([], [(GO, ()), (come, ()), (GO, ())]))

    def test_what_is_no_step(self):
        system = one_row(())
        for step in (("go", (1,)), ("come", (0,)), ("go", (None,)), ("rest", (0,)), ("go", (0, 0)), ("go", ()), None):
            self.barred(system, ([(step, ())], [(REST, ())]))
            self.barred(system, ([], [(step, ())]))

    def test_reads_with_drifts_of_their_own(self):
        # What is read first rises with y, what is read then stays.
        rows = (("a", "go", (), (("x", None),), "b"), ("b", "come", (least(0, x=1, y=-1),),
                                                       (("x", None), ("y", line(1, y=1))), "a"))
        system = (("x", "y"), (), (("m", ("a", "b"), rows),), ())
        lap = [(GO, (least(5, x=-1),)), (("come", (1,)), ()), (REST, (least(0, x=1), least(5, x=-1)))]
        run = self.gone(system, ([], lap))
        self.assertGreaterEqual(Fraction(*run[2][0][2][0][1]), 1)
        self.assertEqual(run[2][1][2], (("x", (0, 1)),))
        # Two boxes read at one moment: one rises, the other one falls.
        both = one_row((("x", None), ("y", None), ("z", line(1, z=1))),
                       wishes=(least(0, x=1, z=-1), least(0, y=-1, z=-1)), boxes=("x", "y", "z"))
        run = self.gone(both, ([(GO, ())], [(GO, ())]))
        drifts = dict(run[2][0][2])
        self.assertGreaterEqual(Fraction(*drifts["x"]), 1)
        self.assertLessEqual(Fraction(*drifts["y"]), -1)

    def test_real_runs_by_chance(self):
        for system, run in some_real_runs(chance_of(26), 120):
            self.gone(system, path_of(run))

    def test_asks_of_real_runs_by_chance(self):
        chance = chance_of(27)
        for system, run in some_real_runs(chance, 80):
            here = moments(system, run, 40)[0]
            path = path_of(run)
            # Wishes that the run grants in all laps, of some boxes.
            for at, (step, asks) in enumerate(path[1]):
                numbers = [one[1] for one in here[len(run[1]) + at::len(run[2])]]
                for box in system[0]:
                    low = min(Fraction(*some[box]) for some in numbers)
                    if Fraction(*numbers[0][box]) == low:
                        path[1][at] = (step, path[1][at][1] + (least(-low, **{box: 1}),))
            self.gone(system, path)

    def test_just_one_of_both_by_chance(self):
        chance = chance_of(28)
        seen = {"run": 0, "barred": 0}
        for _ in range(200):
            system = some_drifting_system(chance)
            rows, places, at = [], system[2][0][1][0], 0
            ends = [places]
            for _ in range(chance.randint(1, 5)):
                step = chance.choice(steps_from(system, (places,)))
                places = places if step[1][0] is None else system[2][0][2][step[1][0]][4]
                asks = (least(chance.randint(-3, 3), x=chance.choice((1, -1))),) if chance.random() < 0.4 else ()
                rows.append((step, asks))
                ends.append(places)
            at = ends.index(ends[-1])
            if at == len(rows):
                continue
            told = led_back(system, (rows[:at], rows[at:]))
            seen[told[0]] += 1
            if told[0] == "run":
                self.assertTrue(is_run(system, told[1]))
                self.assertTrue(is_gone_by(system, (rows[:at], rows[at:]), told[1]))
        self.assertGreater(min(seen.values()), 20, seen)

    def test_no_system(self):
        for thing in anything_but():
            for path in (thing, ([], [(REST, ())])):
                with self.assertRaises(NoSystem):
                    led_back(thing, path)
                with self.assertRaises(NoSystem):
                    led_begin(thing, path)

    def test_all_is_new(self):
        path = ([(GO, ())], [(GO, ())])
        system = one_row((("x", line(1, x=1)),))
        first = led_back(system, path)
        kept = copy.deepcopy(first)
        first[1][1].clear()
        first[1][2].clear()
        self.assertEqual(led_back(system, path), kept)


class LedBegin(unittest.TestCase):
    def numbers(self, system, steps):
        before = copy.deepcopy(steps)
        word, numbers, reads = led_begin(system, steps)
        self.assertEqual(word, "numbers")
        self.assertEqual(steps, before)
        self.assertEqual(sorted(numbers), list(system[0]))
        real = Real(system, numbers)
        self.assertEqual(len(reads), len(steps))
        for (step, asks), some in zip(steps, reads):
            self.assertTrue(all(is_granted(wish, dict(real.stand()[1])) for wish in asks))
            real.do(step, reads=dict(some))
            self.assertEqual(real.done()[-1], (step, some))
        return numbers

    def between(self, system, steps):
        before = copy.deepcopy(steps)
        word, wishes = led_begin(system, steps)
        self.assertEqual(word, "between")
        self.assertEqual(steps, before)
        self.assertEqual(len(wishes), len(steps) + 1)
        for some in wishes:
            self.assertIsInstance(some, tuple)
            for kind, one in some:
                self.assertIn(kind, ("least", "above"))
                self.assertTrue(all(name in system[0] for name, by in one[1]))
        for wish in wishes[0]:
            self.assertTrue(follows(list(system[1]), wish))
        for at, (step, asks) in enumerate(steps):
            known = list(wishes[at]) + wishes_of(system, step) + list(asks)
            sets = {}
            for machine, number in zip(system[2], step[1]):
                for box, one in (machine[2][number][3] if number is not None else ()):
                    sets[box] = ((0, 1), ((box + "'", (1, 1)),)) if one is None else one
            for wish in wishes[at + 1]:
                self.assertTrue(follows(known, put_all(wish, sets)), (steps, wishes))
        self.assertFalse(can_be(list(wishes[-1])))
        return wishes

    def test_numbers(self):
        down = one_row((("x", line(-1, x=1)),), wishes=(least(-5, x=1),), begins=(above(100, x=-1),))
        for many in range(6):
            self.numbers(down, [(GO, ())] * many)
        self.assertEqual(led_begin(steps=[], system=down), led_begin(down, []))
        self.assertEqual(self.numbers(one_row(()), [(GO, (just(-3, x=1),))])["x"], (3, 1))

    def test_between(self):
        down = one_row((("x", line(-1, x=1)),), wishes=(least(-5, x=1),), begins=(just(-7, x=1),))
        self.numbers(down, [(GO, ())] * 3)
        wishes = self.between(down, [(GO, ())] * 4)
        # At first x is seven or less, behind each step one less.
        for at, ((word, one),) in enumerate(wishes[:-1]):
            self.assertTrue(follows([least(7 - at, x=-1)], (word, one)))

    def test_begins_that_nothing_grants(self):
        system = one_row((), begins=(above(0, x=1), above(0, x=-1)))
        self.between(system, [])
        self.between(system, [(GO, ())])

    def test_asks(self):
        system = one_row((("x", line(1, x=1)),))
        self.between(system, [(GO, (least(0, x=-1),)), (REST, ()), (GO, (above(-1, x=1),))])
        self.between(system, [(GO, (just(0, x=1),)), (GO, (just(-2, x=1),))])
        self.between(system, [(GO, (just(0, x=1), just(-2, y=1))), (GO, (just(-1, x=1, y=-1),))])
        self.numbers(system, [(GO, (just(0, x=1),)), (GO, (just(-1, x=1),))])

    def test_reads(self):
        system = one_row((("x", None), ("y", line(0, x=1))), wishes=(above(0, x=1, y=-1),))
        self.numbers(system, [(GO, ())] * 3)
        self.between(system, [(GO, ()), (GO, (least(3, x=-1),)), (REST, (above(-3, y=1),))])
        self.between(system, [(GO, (least(3, x=-1),)), (GO, ()), (REST, (above(-5, x=1), least(5, x=-1)))])

    def test_numbers_that_are_lost(self):
        # x is set anew: what was known of it ahead can't be told behind.
        system = one_row((("x", line(0)), ("y", line(0, x=1, y=1))))
        self.between(system, [(GO, (least(1, x=-1),)), (GO, ()), (GO, (least(-1, x=1),))])
        self.between(system, [(GO, (least(1, x=-1), least(1, y=-1))), (GO, ()), (REST, (above(-2, y=1),))])

    def test_without_boxes(self):
        self.assertEqual(led_begin(one_row((), boxes=()), [(GO, ()), (REST, ())]), ("numbers", {}, [(), ()]))
        self.between(one_row((), wishes=(least(-1),), boxes=()), [(REST, ()), (GO, ()), (GO, ())])
        self.between(one_row((), wishes=(above(0),), boxes=()), [(GO, ())])
        self.between(one_row((), wishes=(just("1/2"),), boxes=()), [(GO, ())])

    def test_just_of_either_sign(self):
        for sign in (1, -1):
            system = one_row((), begins=(just(-4 * sign, x=sign),))
            self.between(system, [(GO, ()), (GO, (above(-4, x=1),))])
            self.between(system, [(GO, ()), (GO, (above(4, x=-1),))])

    def test_by_chance(self):
        chance = chance_of(29)
        seen = {"numbers": 0, "between": 0}
        for _ in range(250):
            system = some_drifting_system(chance) if chance.random() < 0.6 else some_system(chance)
            steps, places = [], tuple(machine[1][0] for machine in system[2])
            for _ in range(chance.randint(0, 5)):
                step = chance.choice(steps_from(system, places)[-3:])
                asks = tuple(chance.choice((least, above, just))(chance.randint(-3, 3), **{box: chance.choice((1, -1))})
                             for box in system[0] if chance.random() < 0.3)
                steps.append((step, asks))
                places = tuple(place if number is None else machine[2][number][4]
                               for machine, place, number in zip(system[2], places, step[1]))
            word = led_begin(system, steps)[0]
            (self.numbers if word == "numbers" else self.between)(system, steps)
            seen[word] += 1
        self.assertGreater(min(seen.values()), 40, seen)

    def test_great_numbers(self):
        great = 10 ** 98 + 1
        system = one_row((("x", line(-great, x=1)),), wishes=(least(-great, x=1),), begins=(just(-3 * great, x=1),))
        self.numbers(system, [(GO, ())] * 3)
        self.between(system, [(GO, ())] * 4)

    def test_all_is_new(self):
        system = one_row((("x", None),))
        first = led_begin(system, [(GO, ())])
        kept = copy.deepcopy(first)
        first[1]["x"] = None
        first[2].clear()
        self.assertEqual(led_begin(system, [(GO, ())]), kept)
        barred = with_part(system, 1, (least(-1),))
        first = led_begin(barred, [(GO, ())])
        kept = copy.deepcopy(first)
        first[1].clear()
        self.assertEqual(led_begin(barred, [(GO, ())]), kept)

    def test_several_machines(self):
        steps = [(("ask", (1, None, None)), ()), (("see", (None, 0, None)), (just(-2, x=1),)),
                 (("down", (2, 1, None)), ())]
        self.numbers(SYSTEM, steps)
        self.between(SYSTEM, steps[:2] + [(("down", (3, 1, None)), (least(0, y=-1),))])
        self.assertEqual(led_back(SYSTEM, (steps, [(rest_of(SYSTEM)[0], ())]))[0], "run")
        self.assertEqual(as_share(2), (2, 1))


if __name__ == "__main__":
    unittest.main()
