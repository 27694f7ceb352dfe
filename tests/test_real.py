import unittest

from glassladder.errors import Bare, Barred, GlassError, NoReads, NoStand, NoStep, NoSystem
from glassladder.real import Real
from glassladder.steps import can_stand, reads_of, steps_from, wishes_of
from glassladder.systems import begin_places
from tests.machines import BARE, FIRST, SYSTEM, some_system, with_part
from tests.samples import anything_but, as_share, chance_of, is_granted, just, least, line, worth_of

REST = ("rest", (None, None, None))
ASK = ("ask", (1, None, None))
DOWN = ("down", (0, 2, None))
SEE = ("see", (None, 0, None))
BEGIN = (("low", "off", "here"), (("x", (3, 1)), ("y", (1, 2)), ("z", (0, 1))))


def real():
    return Real(SYSTEM, dict(FIRST))


class Made(unittest.TestCase):
    def test_begins(self):
        one = Real(numbers=dict(FIRST), system=SYSTEM)
        self.assertEqual(one.stand(), BEGIN)
        self.assertEqual(one.done(), [])
        self.assertEqual(one.system(), SYSTEM)
        self.assertEqual(len(one), 0)
        self.assertEqual(Real(BARE, {}).stand(), (("here",), ()))

    def test_order_of_keys_tells_nothing(self):
        self.assertEqual(Real(SYSTEM, dict(reversed(list(FIRST.items())))).stand(), BEGIN)

    def test_no_system_goes_first(self):
        for thing in anything_but() + [with_part(SYSTEM, 3, ("no",))]:
            with self.assertRaises(NoSystem):
                Real(thing, None)

    def test_no_stand(self):
        others = [{}, {"x": (3, 1), "y": (1, 2)}, {**FIRST, "a": (1, 1)}, {**FIRST, "x": 3}, {**FIRST, "x": (2, 2)},
                  {**FIRST, "x": (True, 1)}, {**FIRST, "x": None}, {**FIRST, "x": [3, 1]}, {**FIRST, "x": (-1, 1)},
                  {**FIRST, "z": (1, 10 ** 60)}, {"x": (3, 1), "y": (1, 2), 0: (0, 1)}, list(FIRST.items()),
                  tuple(FIRST.items()), BEGIN[1]]
        for thing in others + anything_but():
            with self.assertRaises(NoStand) as caught:
                Real(SYSTEM, thing)
            self.assertIsInstance(caught.exception, GlassError)
        for thing in anything_but({}):
            with self.assertRaises(NoStand):
                Real(BARE, thing)

    def test_begins_that_nothing_grants(self):
        with self.assertRaises(NoStand):
            Real(((), (least(-1),), BARE[2], ()), {})

    def test_a_dict_changed_behind_the_call(self):
        numbers = dict(FIRST)
        one = Real(SYSTEM, numbers)
        numbers["x"] = (100, 1)
        numbers.clear()
        self.assertEqual(one.stand(), BEGIN)


class Does(unittest.TestCase):
    def test_steps(self):
        one = real()
        self.assertIsNone(one.do(DOWN))
        self.assertEqual(one.stand(), (("low", "off", "here"), (("x", (2, 1)), ("y", (1, 2)), ("z", (0, 1)))))
        self.assertIsNone(one.do(step=ASK, reads={"x": (7, 2)}))
        self.assertEqual(one.stand(), (("high", "off", "here"), (("x", (7, 2)), ("y", (2, 1)), ("z", (0, 1)))))
        one.do(REST, reads={})
        one.do(("down", (3, 3, None)), reads=None)
        self.assertEqual(one.stand(), (("low", "on", "here"), (("x", (3, 2)), ("y", (7, 2)), ("z", (0, 1)))))
        one.do(("down", (0, 1, None)))
        self.assertEqual(one.stand(), (("low", "on", "here"), (("x", (1, 2)), ("y", (7, 2)), ("z", (1, 1)))))
        self.assertEqual(one.done(), [(DOWN, ()), (ASK, (("x", (7, 2)),)), (REST, ()), (("down", (3, 3, None)), ()),
                                      (("down", (0, 1, None)), ())])
        self.assertEqual(len(one), 5)
        self.assertEqual(one.system(), SYSTEM)

    def test_reads_are_told_by_their_name_alone(self):
        with self.assertRaises(TypeError):
            real().do(ASK, {"x": (1, 1)})

    def test_several_reads_in_order(self):
        row = ("a", "go", (), (("a", None), ("b", line(0, a=1)), ("c", None)), "a")
        one = Real((("a", "b", "c"), (), (("m", ("a",), (row,)),), ()), {name: (1, 1) for name in "abc"})
        one.do(("go", (0,)), reads={"c": (5, 1), "a": (4, 1)})
        self.assertEqual(one.stand()[1], (("a", (4, 1)), ("b", (1, 1)), ("c", (5, 1))))
        self.assertEqual(one.done(), [(("go", (0,)), (("a", (4, 1)), ("c", (5, 1))))])

    def test_granted(self):
        one = real()
        self.assertEqual(one.granted(), [REST, ASK, DOWN, ("down", (0, 3, None)), SEE])
        one.do(SEE, reads={"z": (-6, 1)})
        self.assertEqual(one.granted(), [REST, ASK, ("down", (0, 1, None))])
        one = Real(SYSTEM, {**FIRST, "x": (1, 2)})
        self.assertEqual(one.granted(), [REST, ASK, SEE])
        one.do(ASK, reads={"x": (2, 1)})
        self.assertEqual(len(one.granted()), 6)

    def test_told_lists_changed(self):
        one = real()
        one.do(DOWN)
        one.done().clear()
        one.granted().clear()
        self.assertEqual(one.done(), [(DOWN, ())])
        self.assertEqual(one.granted()[0], REST)

    def test_a_dict_of_reads_changed_behind_the_call(self):
        one = real()
        reads = {"x": (5, 1)}
        one.do(ASK, reads=reads)
        self.assertEqual(reads, {"x": (5, 1)})
        reads["x"] = (6, 1)
        self.assertEqual(one.stand()[1][0], ("x", (5, 1)))
        self.assertEqual(one.done(), [(ASK, (("x", (5, 1)),))])


class Refuses(unittest.TestCase):
    def refused(self, one, error, step, **reads):
        before = (one.stand(), one.done(), len(one), one.granted())
        with self.assertRaises(error) as caught:
            one.do(step, **reads)
        self.assertEqual((one.stand(), one.done(), len(one), one.granted()), before)
        self.assertIsInstance(caught.exception, GlassError)
        return caught.exception

    def test_no_step(self):
        others = [("down", (2, 2, None)), ("down", (0, 1, None)), ("no", (None, None, None)), ("rest", (None, None)),
                  list(DOWN), ("down", [0, 2, None]), ("down", (False, 2, None)), ("see", (None, False, None))]
        for thing in others + anything_but():
            self.refused(real(), NoStep, thing)
            self.refused(real(), NoStep, thing, reads={"x": None})

    def test_no_reads(self):
        for reads in [{}, {"x": 1}, {"x": (2, 2)}, {"y": (1, 1)}, {"x": (1, 1), "y": (1, 1)}, (("x", (1, 1)),)]:
            self.refused(real(), NoReads, ASK, reads=reads)
        for thing in anything_but({"x": (1, 1)}):
            self.refused(real(), NoReads, ASK, reads=thing)
        for thing in anything_but(None, {}):
            self.refused(real(), NoReads, DOWN, reads=thing)
            self.refused(real(), NoReads, REST, reads=thing)
        self.refused(real(), NoReads, ASK)

    def test_barred_by_the_first_wish(self):
        one = Real(SYSTEM, {"x": (1, 2), "y": (-1, 1), "z": (0, 1)})
        self.assertEqual(self.refused(one, Barred, DOWN).number, 0)
        one.do(ASK, reads={"x": (1, 1)})
        one.do(REST)
        self.assertEqual(self.refused(one, Barred, ("down", (2, 2, None))).number, 1)
        one = Real(SYSTEM, {"x": (0, 1), "y": (-1, 1), "z": (0, 1)})
        one.do(ASK, reads={"x": (1, 1)})
        self.assertEqual(self.refused(one, Barred, ("down", (2, 2, None))).number, 0)

    def test_the_last_wish(self):
        system = (("x",), (), (("m", ("a",), (("a", "go", (least(0), least(0, x=1)), (), "a"),)),
                               ("n", ("a",), (("a", "go", (just(0), just(0, x=1)), (), "a"),))), ())
        self.assertEqual(self.refused(Real(system, {"x": (1, 1)}), Barred, ("go", (0, 0))).number, 3)
        self.assertEqual(self.refused(Real(system, {"x": (-1, 1)}), Barred, ("go", (0, 0))).number, 1)

    def test_reads_go_ahead_of_barred(self):
        system = (("x",), (), (("m", ("a",), (("a", "go", (least(-1),), (("x", None),), "a"),)),), ())
        one = Real(system, {"x": (1, 1)})
        self.refused(one, NoReads, ("go", (0,)))
        self.assertEqual(self.refused(one, Barred, ("go", (0,)), reads={"x": (1, 1)}).number, 0)


class GoesBack(unittest.TestCase):
    def test_back(self):
        one = real()
        stands = []
        for step, reads in ((DOWN, None), (ASK, {"x": (9, 1)}), (("down", (2, 3, None)), None), (REST, {})):
            stands.append(one.stand())
            one.do(step, reads=reads)
        while stands:
            self.assertIsNone(one.back())
            self.assertEqual(one.stand(), stands.pop())
            self.assertEqual((len(one), len(one.done())), (len(stands), len(stands)))
        one.do(ASK, reads={"x": (1, 1)})
        self.assertEqual(one.done(), [(ASK, (("x", (1, 1)),))])

    def test_bare(self):
        one = real()
        for _ in range(2):
            with self.assertRaises(Bare) as caught:
                one.back()
            self.assertIsInstance(caught.exception, LookupError)
            self.assertNotIsInstance(caught.exception, GlassError)
        self.assertEqual(one.stand(), BEGIN)
        one.do(DOWN)
        one.back()
        with self.assertRaises(Bare):
            one.back()


class Twins(unittest.TestCase):
    def test_go_on_by_themselves(self):
        one = real()
        one.do(ASK, reads={"x": (9, 1)})
        twin = one.twin()
        self.assertIsInstance(twin, Real)
        self.assertEqual((twin.stand(), twin.done(), len(twin), twin.system()),
                         (one.stand(), one.done(), len(one), one.system()))
        before = (one.stand(), one.done())
        twin.do(("down", (2, 2, None)))
        self.assertEqual((one.stand(), one.done()), before)
        one.back()
        self.assertEqual(len(twin), 2)
        twin.back()
        twin.back()
        self.assertEqual(twin.stand(), BEGIN)
        with self.assertRaises(Bare):
            twin.back()

    def test_where_begins_are_granted_no_more(self):
        one = real()
        one.do(SEE, reads={"z": (5, 1)})
        one.do(REST)
        twin = one.twin()
        self.assertEqual((twin.stand(), twin.done()), (one.stand(), one.done()))
        self.assertTrue(twin == one)

    def test_of_a_bare_one(self):
        self.assertEqual(real().twin().stand(), BEGIN)

    def test_alike(self):
        one, other = real(), real()
        self.assertTrue(one == other)
        self.assertFalse(one != other)
        one.do(DOWN)
        self.assertFalse(one == other)
        self.assertTrue(one != other)
        other.do(REST)
        other.do(DOWN)
        self.assertTrue(one == other)
        self.assertTrue(one == one.twin())
        self.assertFalse(real() == Real(with_part(SYSTEM, 3, ()), FIRST))
        self.assertFalse(real() == Real(SYSTEM, {**FIRST, "y": (1, 3)}))

    def test_alike_with_what_is_no_real(self):
        for thing in anything_but() + [BEGIN, SYSTEM]:
            self.assertIs(real() == thing, False)
            self.assertIs(real() != thing, True)


class ByChance(unittest.TestCase):
    def some_reads(self, chance, system, step):
        return {box: as_share(chance.randint(-5, 5)) for box in reads_of(system, step)}

    def test_walks(self):
        chance = chance_of(71)
        went = 0
        for _ in range(150):
            system = with_part(some_system(chance), 1, ())
            one = Real(system, {box: as_share(chance.randint(-5, 5)) for box in system[0]})
            self.assertEqual(one.stand()[0], begin_places(system))
            for _ in range(12):
                went += self.step(chance, system, one)
        self.assertGreater(went, 200)

    def step(self, chance, system, one):
        places, numbers = one.stand()
        ahead = dict(numbers)
        granted = [step for step in steps_from(system, places)
                   if all(is_granted(wish, ahead) for wish in wishes_of(system, step))]
        self.assertEqual(one.granted(), granted)
        step = chance.choice(granted)
        self.assertTrue(can_stand(system, places, step))
        reads = self.some_reads(chance, system, step)
        one.do(step, reads=reads)
        behind = dict(ahead)
        for machine, number in zip(system[2], step[1]):
            for box, by in machine[2][number][3] if number is not None else ():
                behind[box] = reads[box] if by is None else as_share(worth_of(by, ahead))
        self.assertEqual(one.stand()[1], tuple((box, behind[box]) for box in system[0]))
        self.assertEqual(one.done()[-1], (step, tuple(sorted(reads.items()))))
        return step[0] != "rest"


if __name__ == "__main__":
    unittest.main()
