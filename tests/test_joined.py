import copy
import unittest

from glassladder.granting import contraries
from glassladder.joined import conditions, set_by
from glassladder.made import machine_of
from glassladder.sayings import atoms_of
from glassladder.steps import sets_of, steps_from, wishes_of
from tests.machines import SYSTEM, some_system
from tests.samples import above, chance_of, least, line

X = least(-1, x=1)
Y = above(0, y=1)
SAYING = ("or", ("place", "count", "low"), ("until", ("deed", "down"), ("and", ("wish", X), ("wish", Y))))
DOWN = ("down", (0, 2, None))
ASK = ("ask", (1, None, None))
SEE = ("see", (None, 0, None))
REST = ("rest", (None, None, None))
LOW, HIGH = ("low", "off", "here"), ("high", "off", "here")


def choice_with(saying, asks):
    """The stand and the number of a choice of a saying's made machine with these asks."""
    for stand, choices in enumerate(machine_of(saying)[0]):
        for n, choice in enumerate(choices):
            if choice[0] == asks:
                return stand, n
    raise AssertionError(asks)


class Conditions(unittest.TestCase):
    def told(self, saying, asks, places, wishes, step):
        stand, n = choice_with(saying, asks)
        return conditions(SYSTEM, saying, places, stand, wishes, step, n)

    def test_asks_of_places(self):
        low = ("place", "count", "low")
        known = [Y, least(-1, x=1), least(5, z=1)]
        self.assertEqual(self.told(("not", low), ((0, True),), LOW, (Y,), DOWN), known)
        self.assertIsNone(self.told(("not", low), ((0, True),), HIGH, (Y,), DOWN))
        self.assertIsNone(self.told(low, ((0, False),), LOW, (Y,), DOWN))
        self.assertEqual(self.told(low, ((0, False),), HIGH, (Y,), DOWN), known)
        self.assertEqual(self.told(("place", "look", "on"), ((0, False),), LOW, (), REST), [])
        self.assertIsNone(self.told(("not", ("place", "look", "on")), ((0, True),), LOW, (), REST))

    def test_asks_of_deeds(self):
        for deed, step in (("down", DOWN), ("ask", ASK), ("see", SEE), ("rest", REST)):
            for other in (DOWN, ASK, SEE, REST):
                known = [X] + wishes_of(SYSTEM, other)
                self.assertEqual(self.told(("deed", deed), ((0, False),), LOW, (X,), other),
                                 None if step == other else known)
                self.assertEqual(self.told(("not", ("deed", deed)), ((0, True),), LOW, (X,), other),
                                 known if step == other else None)

    def test_asks_of_wishes(self):
        for wish in (X, Y):
            for wishes in ((), (Y,), (Y, X, Y)):
                known = list(wishes) + [least(-1, x=1), least(5, z=1)]
                self.assertEqual(self.told(("not", ("wish", wish)), ((0, True),), LOW, wishes, DOWN), known + [wish])
                self.assertEqual(self.told(("wish", wish), ((0, False),), LOW, wishes, DOWN),
                                 known + contraries(wish))

    def test_all_in_order(self):
        # The step's wishes come behind those of the entry, those of the asks behind these, in the asks' order.
        saying = ("not", ("and", ("wish", Y), ("and", ("not", ("wish", X)), ("deed", "down"))))
        asks = ((0, True), (1, False), (2, True))
        places, step = HIGH, ("down", (2, 3, None))
        self.assertEqual(self.told(saying, asks, places, (least(9),), step),
                         [least(9), above(0, y=1), least(-2, x=1), least(6, z=1), Y, above(1, x=-1)])
        self.assertIsNone(self.told(saying, asks, places, (least(9),), SEE))
        stand, n = choice_with(saying, asks)
        told = conditions(n=n, step=step, wishes=(), stand=stand, places=places, saying=saying, system=SYSTEM)
        self.assertEqual(told, [above(0, y=1), least(-2, x=1), least(6, z=1), Y, above(1, x=-1)])

    def test_stands_without_asks(self):
        saying = ("not", ("yes",))
        for stand in (0, 1):
            self.assertEqual(conditions(SYSTEM, saying, LOW, stand, (Y,), REST, 0), [Y])

    def test_by_all_choices(self):
        machine, atoms = machine_of(SAYING), atoms_of(SAYING)
        for places in (LOW, HIGH, ("high", "on", "here")):
            for step in steps_from(SYSTEM, places):
                for stand, choices in enumerate(machine[0]):
                    for n, (asks, to, kept) in enumerate(choices):
                        known = [X] + wishes_of(SYSTEM, step)
                        for number, truth in asks:
                            atom = atoms[number]
                            if atom[0] == "wish":
                                known += [atom[1]] if truth else contraries(atom[1])
                            elif (places[0] == "low" if atom[0] == "place" else step[0] == "down") != truth:
                                known = None
                                break
                        self.assertEqual(conditions(SYSTEM, SAYING, places, stand, (X,), step, n), known)

    def test_told_lists_are_new_ones(self):
        system, saying = copy.deepcopy(SYSTEM), ("not", ("wish", X))
        first = conditions(system, saying, LOW, 0, (Y,), DOWN, 0)
        kept = list(first)
        first.clear()
        self.assertEqual(conditions(system, saying, LOW, 0, (Y,), DOWN, 0), kept)
        self.assertEqual(system, SYSTEM)


class SetBy(unittest.TestCase):
    def test_lines_and_reads(self):
        self.assertEqual(set_by(SYSTEM, REST), {})
        self.assertEqual(set_by(SYSTEM, ASK), {"x": ((0, 1), (("x'", (1, 1)),)), "y": line(0, x=1)})
        self.assertEqual(set_by(SYSTEM, SEE), {"z": ((0, 1), (("z'", (1, 1)),))})
        self.assertEqual(set_by(step=("down", (2, 1, None)), system=SYSTEM),
                         {"x": line(0, x=1, y=-1), "y": line(0, x=1), "z": line(1, z=1)})
        self.assertEqual(set_by(SYSTEM, DOWN), {"x": line(-1, x=1)})

    def test_names_of_eight_letters(self):
        system = (("abcdefgh",), (), (("m", ("a",), (("a", "go", (), (("abcdefgh", None),), "a"),)),), ())
        self.assertEqual(set_by(system, ("go", (0,))), {"abcdefgh": ((0, 1), (("abcdefgh'", (1, 1)),))})

    def test_by_chance(self):
        chance = chance_of(161)
        for _ in range(60):
            system = some_system(chance)
            before = copy.deepcopy(system)
            for step in steps_from(system, tuple(machine[1][0] for machine in system[2])):
                told = set_by(system, step)
                wanted = {box: ((0, 1), ((box + "'", (1, 1)),)) if one is None else one
                          for box, one in sets_of(system, step)}
                self.assertEqual(told, wanted)
                told.clear()
                self.assertEqual(set_by(system, step), wanted)
            self.assertEqual(system, before)


if __name__ == "__main__":
    unittest.main()
