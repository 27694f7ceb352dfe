import copy
import unittest

from glassladder.errors import GlassError, NoSystem
from glassladder.lines import line_of
from glassladder.shares import ONE
from glassladder.steps import (
    behind, can_stand, is_places, is_step, reads_of, sets_of, steps_from, wishes_of,
)
from glassladder.systems import begin_places, deeds_of, look_at_system
from tests.machines import BARE, COUNT, IDLE, LOOK, SYSTEM, some_system, system_called, with_machine, with_part
from tests.samples import anything_but, chance_of, least, line

ROW = ("a", "go", (), (), "a")
MACHINE = ("m", ("a", "b"), (ROW,))
STROKE = ("least", line_of(ONE, {"x'": ONE}))


def of_row(row, boxes=("x",)):
    return (boxes, (), (("m", ("a", "b"), (row,)),), ())


def numbered(name, many):
    return tuple(name + "abcdefghij"[at] for at in range(many))


class Looked(unittest.TestCase):
    def refused(self, thing):
        with self.assertRaises(NoSystem) as caught:
            look_at_system(thing)
        self.assertIsInstance(caught.exception, GlassError)
        return (caught.exception.part, caught.exception.at)


class Systems(Looked):
    def test_none_is_told_of_a_system(self):
        for system in (SYSTEM, BARE, of_row(ROW), ((), (), (MACHINE,), ("go",)), ((), (least(-1),), (MACHINE,), ())):
            self.assertIsNone(look_at_system(system))
        self.assertIsNone(look_at_system(thing=BARE))
        chance = chance_of(51)
        for _ in range(200):
            system = some_system(chance)
            before = copy.deepcopy(system)
            self.assertIsNone(look_at_system(system))
            self.assertIsNone(look_at_system(system_called(system, range(len(system[2])))))
            self.assertEqual(system, before)

    def test_just_so_many(self):
        boxes = numbered("b", 4)
        wish = least(1, ba=1)
        row = ("pa", "go", (wish,) * 6, tuple((box, line(0, ba=1)) for box in boxes), "pf")
        machines = tuple((name, numbered("p", 6), (with_part(row, 1, "go" + name),) * 8) for name in numbered("m", 4))
        fair = tuple("go" + name for name in numbered("m", 4))
        self.assertIsNone(look_at_system((boxes, (wish,) * 8, machines, fair)))

    def test_one_more(self):
        wish = least(1, x=1)
        self.assertEqual(self.refused((numbered("b", 5), (), (IDLE,), ())), ("boxes", None))
        self.assertEqual(self.refused((("x",), (wish,) * 9, (IDLE,), ())), ("begins", None))
        five = tuple((name, ("a",), ()) for name in numbered("m", 5))
        self.assertEqual(self.refused((("x",), (), five, ())), ("machines", None))
        self.assertEqual(self.refused((("x",), (), (), ())), ("machines", None))
        for machine in (("m", numbered("p", 7), ()), ("m", (), ()), ("m", ("a",), (ROW,) * 9),
                        ("m", ("a",), (with_part(ROW, 2, (wish,) * 7),))):
            self.assertEqual(self.refused((("x",), (), (IDLE, machine), ())), ("machines", 1), machine)


class Parts(Looked):
    def test_form(self):
        for thing in anything_but() + [list(SYSTEM), SYSTEM[:3], SYSTEM + ((),), dict(enumerate(SYSTEM)), [], ()]:
            self.assertEqual(self.refused(thing), ("form", None), thing)

    def test_boxes(self):
        others = [("y", "x"), ("x", "x"), ("x", "y", "x"), ["x"], ("rest",), ("X",), ("x'",), (None,), (["x"],), ("",),
                  ("abcdefghi",), "x", {"x": 1}, ("x", True), None, ("x", ("y",))]
        for boxes in others:
            self.assertEqual(self.refused((boxes, (), (IDLE,), ())), ("boxes", None), boxes)
        for boxes in anything_but(()):
            self.assertEqual(self.refused((boxes, (), (IDLE,), ())), ("boxes", None), boxes)

    def test_begins(self):
        others = [[least(0)], (least(0, y=1),), (least(0), None), least(0), (line(0),), (["least", line(0)],),
                  (STROKE,), ("least",), None, (("most", line(0)),)]
        for begins in others + anything_but(()):
            self.assertEqual(self.refused((("x",), begins, (IDLE,), ())), ("begins", None), begins)

    def test_no_machines(self):
        for machines in [[IDLE], None, {0: IDLE}, "m", [], 1, set()]:
            self.assertEqual(self.refused(((), (), machines, ())), ("machines", None), machines)

    def test_a_machine_that_is_none_by_itself(self):
        others = [
            list(MACHINE), MACHINE[:2], MACHINE + ((),), ("M", ("a",), ()), ("rest", ("a",), ()), (None, ("a",), ()),
            ("m", ["a"], ()), ("m", ("a", "a"), ()), ("m", ("a", "rest"), ()), ("m", ("A",), ()), ("m", (["a"],), ()),
            ("m", "a", ()), ("m", None, ()), ("m", ("a",), []), ("m", ("a",), None), ("m", ("a",), ((),)),
            (["m"], ("a",), ()), ("m", ("a",), ROW), ("m", ("a", True), ()), ("m", ({},), ()), ("m", ("a",), {}),
        ]
        for machine in others + anything_but():
            self.assertEqual(self.refused(((), (), (machine,), ())), ("machines", 0), machine)
            self.assertEqual(self.refused(((), (), (IDLE, machine, None), ())), ("machines", 1), machine)

    def test_a_row_that_is_none(self):
        others = [
            list(ROW), ROW[:4], ROW + ((),), ("c", "go", (), (), "a"), ("a", "go", (), (), "c"),
            (None, "go", (), (), "a"),
            ("a", "rest", (), (), "a"), ("a", "Go", (), (), "a"), ("a", None, (), (), "a"), ("a", ["go"], (), (), "a"),
            ("a", "go", [], (), "a"), ("a", "go", (least(0, y=1),), (), "a"), ("a", "go", (None,), (), "a"),
            ("a", "go", (STROKE,), (), "a"), ("a", "go", None, (), "a"), ("a", "go", (), [], "a"),
            ("a", "go", (), (("y", line(0)),), "a"), ("a", "go", (), (("x", line(0, y=1)),), "a"),
            ("a", "go", (), (("x", line(0)), ("x", line(0))), "a"), ("a", "go", (), (["x", line(0)],), "a"),
            ("a", "go", (), (("x",),), "a"), ("a", "go", (), (("x", line(0), 0),), "a"), ("a", "go", (), ("x",), "a"),
            ("a", "go", (), (("x", (0, 1)),), "a"), ("a", "go", (), (("x", False),), "a"), ("a", "go", (), None, "a"),
            ("a", "go", (), (([], None),), "a"), (["a"], "go", (), (), "a"), ("a", "go", (), (), {}), ("a",) * 5,
            ("a", "go", (), (("x", STROKE[1]),), "a"),
        ]
        for row in others + anything_but():
            self.assertEqual(self.refused(of_row(row)), ("machines", 0), row)
        falling = ("a", "go", (), (("y", None), ("x", None)), "a")
        self.assertEqual(self.refused(of_row(falling, ("x", "y"))), ("machines", 0))
        self.assertIsNone(look_at_system(of_row(("a", "go", (), (("x", None), ("y", None)), "b"), ("x", "y"))))

    def test_a_name_that_stood_ahead(self):
        system = ((), (), (MACHINE, IDLE, with_part(IDLE, 0, "m"), ("rest",)), ())
        self.assertEqual(self.refused(system), ("machines", 2))
        self.assertEqual(self.refused(((), (), (MACHINE, MACHINE), ())), ("machines", 1))

    def test_names_may_be_alike_otherwise(self):
        row = ("m", "m", (), (("m", None),), "m")
        self.assertIsNone(look_at_system((("m",), (), (("m", ("m",), (row,)),), ("m",))))

    def test_five_with_one_that_is_none(self):
        five = tuple((name, ("a",), ()) for name in numbered("m", 5))
        self.assertEqual(self.refused(((), (), with_part(five, 3, None), ())), ("machines", 3))

    def test_sets(self):
        def machine(name, *deeds, sets=(("x", None),)):
            places = ("a", "b")
            return (name, places, tuple((places[at % 2], deed, (), sets, "a") for at, deed in enumerate(deeds)))
        for machines, deed in (
            ((machine("m", "go"), machine("n", "go")), "go"),
            ((machine("m", "go", "come"), machine("n", "come", "go")), "come"),
            ((machine("m", "z"), machine("n", "z", "b", "a"), machine("o", "b")), "b"),
            ((machine("m", "go"), IDLE, machine("n", "come", "go", sets=(("x", line(1)), ("y", None)))), "go"),
        ):
            self.assertEqual(self.refused((("x", "y"), (), machines, ())), ("sets", deed))
        for machines in (
            (machine("m", "go"), machine("n", "come")), (machine("m", "go", "go"),),
            (machine("m", "go"), machine("n", "go", sets=(("y", None),))),
            (machine("m", "go"), machine("n", "go", sets=())),
        ):
            self.assertIsNone(look_at_system((("x", "y"), (), machines, ())))

    def test_sets_where_places_never_meet(self):
        one = ("m", ("a", "b"), (("b", "go", (), (("x", None),), "b"), ("a", "go", (), (), "a")))
        other = ("n", ("a", "b"), (("a", "go", (), (), "a"), ("b", "go", (least(-1),), (("x", None),), "b")))
        self.assertEqual(self.refused((("x",), (), (one, other), ())), ("sets", "go"))

    def test_fair(self):
        others = [("see", "ask"), ("ask", "ask"), ("rest",), ("no",), ["ask"], ("ask", None), None, "ask", (["ask"],),
                  {"ask": 1}, ("low",)]
        for fair in others + anything_but(()):
            self.assertEqual(self.refused(with_part(SYSTEM, 3, fair)), ("fair", None), fair)
        for fair in ((), ("ask",), ("ask", "down", "see")):
            self.assertIsNone(look_at_system(with_part(SYSTEM, 3, fair)))

    def test_two_faults_at_once(self):
        reading = ("a", "go", (), (("x", None),), "a")
        twice = (("m", ("a",), (reading,)), ("n", ("a",), (reading,)))
        faults = [("boxes", ("y", "x")), ("begins", None), ("machines", (None,)), ("fair", None)]
        for at, (part, fault) in enumerate(faults):
            for later, (other, other_fault) in enumerate(faults):
                if later > at:
                    thing = with_part(with_part((("x",), (), (IDLE,), ()), at, fault), later, other_fault)
                    self.assertEqual(self.refused(thing), (part, 0 if part == "machines" else None))
        self.assertEqual(self.refused((("x",), (), twice, None)), ("sets", "go"))
        self.assertEqual(self.refused((("x",), (), twice + (None,), ())), ("machines", 2))
        self.assertEqual(self.refused((("y",), (), twice, ())), ("machines", 0))

    def test_the_thing_stays(self):
        thing = (["x"], {"a": [1]}, [MACHINE], set())
        before = copy.deepcopy(thing)
        self.refused(thing)
        self.assertEqual(thing, before)


class Told(unittest.TestCase):
    def test_deeds_of(self):
        self.assertEqual(deeds_of(SYSTEM), ["ask", "down", "see"])
        told = deeds_of(system=SYSTEM)
        told.clear()
        self.assertEqual(deeds_of(SYSTEM), ["ask", "down", "see"])
        self.assertEqual(deeds_of(BARE), [])

    def test_begin_places(self):
        self.assertEqual(begin_places(SYSTEM), ("low", "off", "here"))
        self.assertEqual(begin_places(system=with_machine(SYSTEM, 0, with_part(COUNT, 1, ("high", "low")))),
                         ("high", "off", "here"))

    def test_what_is_no_system_is_refused_ahead_of_all_else(self):
        step, places = ("rest", (None, None, None)), ("low", "off", "here")
        no_systems = anything_but() + [list(SYSTEM), with_part(SYSTEM, 3, ("no",)), with_machine(SYSTEM, 1, LOOK[:2])]
        for thing in no_systems:
            for deed in (lambda: deeds_of(thing), lambda: begin_places(thing), lambda: is_places(thing, places),
                         lambda: is_step(thing, None), lambda: steps_from(thing, None), lambda: wishes_of(thing, step),
                         lambda: sets_of(thing, None), lambda: behind(thing, None, None), lambda: reads_of(thing, step),
                         lambda: can_stand(thing, places, step)):
                with self.assertRaises(NoSystem) as caught:
                    deed()
                with self.assertRaises(NoSystem) as looked:
                    look_at_system(thing)
                self.assertEqual((caught.exception.part, caught.exception.at),
                                 (looked.exception.part, looked.exception.at))


if __name__ == "__main__":
    unittest.main()
