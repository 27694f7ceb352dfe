import unittest

from glassladder.climbing import (
    is_like_step, lines_of_lap, moves_up, path_up, rank_of_lap, run_up, scaled, step_up, wishes_more,
)
from glassladder.drifting import is_run
from glassladder.ladder import Ladder
from glassladder.looker import look_at_joined
from glassladder.made import machine_of
from glassladder.ranks import Memory
from glassladder.rungs import is_rung
from glassladder.through import lap_or_why, table
from glassladder.together import together
from glassladder.unasked import unasked
from tests.machines import with_part
from tests.samples import above, just, least, line

REST = ("rest", (None,))
# Behind the first lap c is come to, behind that b and c in turn; below all three are one.
ROUND = ((), (), (("m", ("a", "b", "c"), (
    ("a", "go", (), (), "c"), ("b", "go", (), (), "c"), ("c", "go", (), (), "b"))),), ())
GO = ("deed", "go")
# Two rows that differ by a box that nobody asks.
ALIKE = (("x", "y"), (), (("m", ("a",), (
    ("a", "go", (least(0, x=1),), (("x", line(1, x=1)), ("y", line(1))), "a"),
    ("a", "go", (least(0, x=1),), (("x", line(1, x=1)), ("y", line(2))), "a"))),), ())


class Steps(unittest.TestCase):
    def test_like_steps(self):
        rows = (("a", "go", (X,), (), "a"), ("a", "go", (X,), (), "a"), ("a", "go", (), (), "a"),
                ("a", "go", (X,), (("x", None),), "a"), ("a", "go", (X,), (), "b"), ("a", "come", (X,), (), "a"))
        system = (("x",), (), (("m", ("a", "b"), rows),), ())
        steps = [(row[1], (number,)) for number, row in enumerate(rows)]
        for other in steps:
            self.assertEqual(is_like_step(system, ("a",), steps[0], other), other in steps[:2], other)

    def test_rows_that_are_one_below(self):
        rung = unasked(ALIKE, GO)
        self.assertTrue(is_rung(rung))
        self.assertEqual(rung[2][0], ("x",))
        # Both upper steps are led to the first lower one: the second one is just like it.
        self.assertEqual(step_up(rung, ("a",), ("go", (0,))), ("go", (0,)))
        self.assertEqual(step_up(rung, ("a",), ("go", (1,))), ("go", (0,)))
        self.assertEqual(step_up(rung, ("a",), REST), REST)

    def test_no_step_is_led_to(self):
        # A lower row that asks less, beside one that asks the same: no upper step is led to it.
        lower = with_part(ALIKE, 2, (("m", ("a",), (ALIKE[2][0][2][0], with_part(ALIKE[2][0][2][0], 2, ()))),))
        rung = ("more", with_part(ALIKE, 2, (("m", ("a",), ALIKE[2][0][2][:1]),)), lower, ((0, (("a", "a"),)),))
        self.assertTrue(is_rung(rung))
        self.assertIsNone(step_up(rung, ("a",), ("go", (1,))))
        self.assertIsNone(moves_up(rung, ("a",), [(REST, ()), (("go", (1,)), ())]))
        self.assertIsNone(path_up(rung, ([(("go", (1,)), ())], [(REST, ())])))
        self.assertIsNone(path_up(rung, ([], [(("go", (1,)), ())])))
        self.assertIsNone(run_up([rung], ([], [(("go", (1,)), ())]), None))
        self.assertEqual(path_up(rung, ([], [(("go", (0,)), ())])), ([], [(("go", (0,)), ())]))

    def test_the_lap_till_its_places_come_again(self):
        rung = together(ROUND, GO)
        self.assertEqual(rung[2][2][0][1], ("a",))
        asks = (least(1),)
        path = ([(REST, ())], [(("go", (0,)), asks), (REST, ())])
        stem, lap = path_up(rung, path)
        self.assertEqual(stem, [(REST, ()), (("go", (0,)), asks), (REST, ())])
        self.assertEqual(lap, [(("go", (2,)), asks), (REST, ()), (("go", (1,)), asks), (REST, ())])
        run = run_up([rung], path, None)
        self.assertTrue(is_run(ROUND, run))
        self.assertEqual([step for step, reads, drifts in run[2]], [step for step, asks in lap])

    def test_barred_at_an_upper_one(self):
        # Nobody asks y, of which begins can't be: below there is a run, above there is none.
        system = with_part(ALIKE, 1, (above(0, y=1), above(0, y=-1)))
        rung = unasked(system, GO)
        self.assertIsNone(run_up([rung], ([], [(("go", (0,)), ())]), None))
        self.assertIsNotNone(run_up([unasked(ALIKE, GO)], ([], [(("go", (0,)), ())]), None))
        saying = ("not", ("always", ("ever", GO)))
        self.assertEqual(Ladder(system, saying).word(), "open")
        below = Ladder(system, saying, rungs=())
        self.assertEqual(below.word(), "holds")
        self.assertIsNone(look_at_joined(system, saying, below.paper()))


X = least(0, x=1)


class Learnt(unittest.TestCase):
    def test_scaled(self):
        self.assertEqual(scaled(least(4, x=2, y=-6)), least(2, x=1, y=-3))
        self.assertEqual(scaled(above(1, x="-1/3", y=1)), above(3, x=-1, y=3))
        self.assertEqual(scaled(above(5, y=-1)), above(5, y=-1))

    def test_wishes_more(self):
        had = [least(1, x=1), above(2, x=-1)]
        between = [(), (least(3),), (least(2, x=2),), (least(-2, x=1),), (above(-1, x=-1),), (above(7, x=7),),
                   (above(1, x=1), least(-1, x=-1)), (above(0),)]
        # The first is there, of the next ones the contraries are; what is put behind isn't put twice.
        self.assertEqual(wishes_more(had, between), [above(1, x=1)])
        self.assertEqual(wishes_more([], [(least(4, y=-2),), (above(-2, y=1),), (least(2, y=-1),), (above(-4, y=2),)]),
                         [least(2, y=-1)])
        self.assertEqual(wishes_more([], [(least(1),), (above(-1),)]), [])
        self.assertEqual(had, [least(1, x=1), above(2, x=-1)])

    def test_lines_of_a_lap(self):
        rows = (("a", "go", (X, least(1), just(-1, y=1)), (), "a"), ("a", "come", (X, least(0, x=-1)), (), "a"))
        system = (("x", "y"), (), (("m", ("a",), rows),), ())
        lap = [(("go", (0,)), (above(-1, y=1), above(2, y=2))), (("come", (1,)), ())]
        x, y, two, turned = line(0, x=1), line(-1, y=1), line(2, y=2), line(0, x=-1)
        sums = [line(-1, x=1, y=1), line(2, x=1, y=2), line(1, y=3), line(-1, x=-1, y=1), line(2, x=-1, y=2)]
        # x and x turned come to a line without names.
        self.assertEqual(lines_of_lap(system, lap), [x, y, two, turned] + sums)

    def test_a_rank_of_a_lap(self):
        # x is counted down by go, y by come: each lap has both.
        rows = (("a", "go", (least(-1, x=1),), (("x", line(-1, x=1)),), "b"),
                ("b", "come", (least(-1, y=1),), (("y", line(-1, y=1)),), "a"))
        system = (("x", "y"), (), (("m", ("a", "b"), rows),), ())
        saying = ("not", ("always", ("ever", GO)))
        found = table(system, saying, [])
        memory = Memory()
        many = machine_of(saying)[1]
        told = lap_or_why(memory, many, found, [])
        self.assertEqual(told[0], "lap")
        lines = [line(3), line(0, x=-1), line(0, y=1), line(-1, x=1)]

        def rank(ranks, some):
            return rank_of_lap((memory, found[3], many, ranks), told, some)

        self.assertEqual(rank([], lines), line(0, y=1))
        self.assertEqual(rank([line(0, y=1)], lines), line(-1, x=1))
        self.assertIsNone(rank([line(0, y=1), line(-1, x=1)], lines))
        self.assertIsNone(rank([], lines[:2]))

    def test_a_rank_of_another_tie_is_none_of_the_lap(self):
        # `come` falls, but the lap found is of `go` alone: that falls by nothing.
        rows = (("a", "go", (least(-1, x=1),), (("x", line(0, x="1/2")),), "a"),
                ("a", "come", (least(-1, y=1),), (("y", line(-1, y=1)),), "a"))
        system = (("x", "y"), (), (("m", ("a",), rows),), ())
        saying = ("not", ("always", ("ever", GO)))
        found = table(system, saying, [])
        told = lap_or_why(Memory(), 1, found, [])
        self.assertEqual({found[3][number][3][0] for number in told[2]}, {"go"})
        self.assertIsNone(rank_of_lap((Memory(), found[3], 1, []), told, [line(0, y=1)]))


if __name__ == "__main__":
    unittest.main()
