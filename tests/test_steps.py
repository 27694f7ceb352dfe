import itertools
import unittest

from glassladder.steps import behind, can_stand, is_places, is_step, reads_of, sets_of, steps_from, wishes_of
from glassladder.systems import begin_places, deeds_of, look_at_system
from tests.machines import (
    BARE, SYSTEM, called, sets_called, some_system, system_called, wishes_called,
)
from tests.samples import above, anything_but, chance_of, least, line

REST = ("rest", (None, None, None))


def all_places(system):
    return list(itertools.product(*(machine[1] for machine in system[2])))


def all_steps(system):
    """All steps, found here by going through all rows."""
    steps = [("rest", (None,) * len(system[2]))]
    for deed in sorted({row[1] for machine in system[2] for row in machine[2]}):
        numbers = [[at for at, row in enumerate(machine[2]) if row[1] == deed] or [None] for machine in system[2]]
        steps.extend((deed, rows) for rows in sorted(itertools.product(*numbers), key=repr_of_rows))
    return steps


def repr_of_rows(rows):
    return [-1 if number is None else number for number in rows]


def stands(system, places, step):
    return all(number is None or machine[2][number][0] == place
               for machine, place, number in zip(system[2], places, step[1]))


def step_called(step, order):
    return (step[0] if step[0] == "rest" else called(step[0]), tuple(step[1][at] for at in order))


class ByHand(unittest.TestCase):
    def test_steps_from(self):
        self.assertEqual(steps_from(SYSTEM, ("low", "off", "here")), [
            REST, ("ask", (1, None, None)), ("down", (0, 2, None)), ("down", (0, 3, None)), ("see", (None, 0, None))])
        self.assertEqual(steps_from(SYSTEM, ("low", "on", "here")), [
            REST, ("ask", (1, None, None)), ("down", (0, 1, None))])
        self.assertEqual(steps_from(places=("high", "off", "here"), system=SYSTEM), [
            REST, ("down", (2, 2, None)), ("down", (2, 3, None)), ("down", (3, 2, None)), ("down", (3, 3, None)),
            ("see", (None, 0, None))])
        self.assertEqual(steps_from(BARE, ("here",)), [("rest", (None,))])

    def test_wishes_of(self):
        self.assertEqual(wishes_of(SYSTEM, REST), [])
        self.assertEqual(wishes_of(SYSTEM, ("down", (2, 3, None))), [above(0, y=1), least(-2, x=1), least(6, z=1)])
        self.assertEqual(wishes_of(step=("down", (0, 2, None)), system=SYSTEM), [least(-1, x=1), least(5, z=1)])

    def test_sets_of_and_reads_of(self):
        self.assertEqual(sets_of(SYSTEM, REST), ())
        self.assertEqual(sets_of(SYSTEM, ("ask", (1, None, None))), (("x", None), ("y", line(0, x=1))))
        self.assertEqual(sets_of(SYSTEM, ("down", (2, 1, None))),
                         (("x", line(0, x=1, y=-1)), ("y", line(0, x=1)), ("z", line(1, z=1))))
        self.assertEqual(reads_of(SYSTEM, ("ask", (1, None, None))), ["x"])
        self.assertEqual(reads_of(SYSTEM, ("see", (None, 0, None))), ["z"])
        self.assertEqual(reads_of(step=("down", (2, 1, None)), system=SYSTEM), [])

    def test_sets_of_several_machines_rise(self):
        machines = (("m", ("a",), (("a", "go", (), (("b", None), ("d", None)), "a"),)),
                    ("n", ("a",), (("a", "go", (), (("a", None), ("c", line(1))), "a"),)))
        system = (("a", "b", "c", "d"), (), machines, ())
        self.assertEqual(sets_of(system, ("go", (0, 0))), (("a", None), ("b", None), ("c", line(1)), ("d", None)))
        self.assertEqual(reads_of(system, ("go", (0, 0))), ["a", "b", "d"])

    def test_behind_and_can_stand(self):
        places = ("low", "off", "here")
        self.assertEqual(behind(SYSTEM, places, REST), places)
        self.assertEqual(behind(SYSTEM, places, ("ask", (1, None, None))), ("high", "off", "here"))
        self.assertEqual(behind(SYSTEM, ("high", "off", "here"), ("down", (2, 3, None))), ("low", "on", "here"))
        self.assertIs(can_stand(SYSTEM, places, REST), True)
        self.assertIs(can_stand(SYSTEM, places, ("down", (0, 3, None))), True)
        self.assertIs(can_stand(SYSTEM, places, ("down", (0, 1, None))), False)
        self.assertIs(can_stand(step=("down", (2, 3, None)), places=places, system=SYSTEM), False)


class Truths(unittest.TestCase):
    def test_is_places(self):
        for places in all_places(SYSTEM):
            self.assertIs(is_places(SYSTEM, places), True)
            self.assertIs(is_places(SYSTEM, list(places)), False)
            self.assertIs(is_places(SYSTEM, places[:2]), False)
            self.assertIs(is_places(SYSTEM, places + ("here",)), False)
        for thing in anything_but() + [("low", "off", None), ("off", "low", "here"), ("low", "off", ["here"])]:
            self.assertIs(is_places(SYSTEM, thing), False, thing)
            self.assertIs(is_places(BARE, (thing,)), False, thing)

    def test_is_step(self):
        for step in all_steps(SYSTEM):
            self.assertIs(is_step(SYSTEM, step), True)
            self.assertIs(is_step(SYSTEM, list(step)), False)
            self.assertIs(is_step(SYSTEM, (step[0], list(step[1]))), False)
            self.assertIs(is_step(SYSTEM, (step[0], step[1][:2])), False)
            self.assertIs(is_step(SYSTEM, step + (None,)), False)
        others = [
            ("down", (False, 2, None)), ("down", (0, True, None)), ("down", (1, 2, None)), ("down", (0, 0, None)),
            ("down", (0, None, None)), ("down", (None, None, None)), ("down", (0, 2, 0)), ("ask", (1, 2, None)),
            ("ask", (0, None, None)), ("down", (-1, 2, None)), ("down", (4, 2, None)), ("down", (2, 4, None)),
            ("rest", (0, None, None)), ("rest", ()), ("no", (None, None, None)), ("low", (None, None, None)),
            (None, (None, None, None)), (["down"], (0, 2, None)), ("down", ("0", 2, None)), ("down", ([], 2, None)),
            ("down", None), ("rest", None), ("see", (None, False, None)), ("down",), ("rest", (None,) * 4),
        ]
        for thing in others + anything_but():
            self.assertIs(is_step(SYSTEM, thing), False, thing)
        for thing in anything_but(None):
            self.assertIs(is_step(BARE, ("rest", (thing,))), False, thing)
            self.assertIs(is_step(BARE, (thing, (None,))), thing == "rest", thing)
        self.assertIs(is_step(thing=REST, system=SYSTEM), True)


class ByChance(unittest.TestCase):
    def test_all(self):
        chance = chance_of(61)
        for _ in range(150):
            system = some_system(chance)
            steps = all_steps(system)
            for places in all_places(system):
                self.assertIs(is_places(system, places), True)
                from_here = [step for step in steps if stands(system, places, step)]
                self.assertEqual(steps_from(system, places), from_here)
                for step in from_here:
                    self.assertIs(is_step(system, step), True)
                    self.assertIs(can_stand(system, places, step), True)
                    self.assertIs(is_places(system, behind(system, places, step)), True)
            for step in steps:
                rows = [machine[2][number] for machine, number in zip(system[2], step[1]) if number is not None]
                self.assertEqual(wishes_of(system, step), [wish for row in rows for wish in row[2]])
                sets = sets_of(system, step)
                self.assertIsInstance(sets, tuple)
                self.assertEqual([box for box, one in sets], sorted({box for row in rows for box, one in row[3]}))
                self.assertEqual(reads_of(system, step), [box for box, one in sets if one is None])

    def test_called_otherwise_and_in_another_order(self):
        chance = chance_of(62)
        for _ in range(60):
            system = some_system(chance)
            order = list(range(len(system[2])))
            chance.shuffle(order)
            other = system_called(system, order)
            self.assertIsNone(look_at_system(other))
            self.assertEqual(deeds_of(other), sorted(map(called, deeds_of(system))))
            self.assertEqual(begin_places(other), tuple(called(begin_places(system)[at]) for at in order))
            for places in all_places(system):
                there = tuple(called(places[at]) for at in order)
                self.assertCountEqual(steps_from(other, there),
                                      [step_called(step, order) for step in steps_from(system, places)])
                for step in steps_from(system, places):
                    so_called = step_called(step, order)
                    self.assertCountEqual(wishes_of(other, so_called), wishes_called(wishes_of(system, step)))
                    self.assertEqual(sets_of(other, so_called), sets_called(sets_of(system, step)))
                    self.assertEqual(reads_of(other, so_called), sorted(map(called, reads_of(system, step))))
                    after = behind(system, places, step)
                    self.assertEqual(behind(other, there, so_called), tuple(called(after[at]) for at in order))

    def test_told_lists_are_new_ones(self):
        places, step = ("high", "off", "here"), ("down", (2, 3, None))
        for ask in (lambda: steps_from(SYSTEM, places), lambda: wishes_of(SYSTEM, step),
                    lambda: reads_of(SYSTEM, ("ask", (1, None, None)))):
            first = ask()
            kept = list(first)
            first.reverse()
            first.append(None)
            self.assertEqual(ask(), kept)


if __name__ == "__main__":
    unittest.main()
