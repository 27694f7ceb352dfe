import copy
import itertools
import unittest

from glassladder.errors import NoSaying, NoSystem
from glassladder.rungs import is_rung, is_shown, led_saying
from glassladder.sayings import atoms_of
from glassladder.systems import look_at_system
from glassladder.unasked import unasked
from tests.machines import some_system, with_part
from tests.papers import Table, atoms_over, some_saying_over, some_small_system
from tests.samples import anything_but, chance_of, least, line, some_wishes

YES = ("yes",)


def itself(system):
    """The meaning of a system in itself."""
    return tuple((n, tuple((place, place) for place in machine[1])) for n, machine in enumerate(system[2]))


def machine(name, *rows):
    """A machine of one place, rows told as tuples (deed, wishes, sets)."""
    return (name, ("a",), tuple(("a", deed, wishes, sets, "a") for deed, wishes, sets in rows))


def is_closed(system, atoms, names, boxes):
    """Whether all that is kept where these machines and boxes are is among them."""
    for one in system[2]:
        deeds = {row[1] for row in one[2]}
        others = {row[1] for other in system[2] if other != one for row in other[2]}
        named = {atom[1] for atom in atoms if atom[0] == "deed"}
        asked = deeds & (others | set(system[3]) | named) or "rest" in named
        asked = asked or any(atom[0] == "place" and atom[1] == one[0] for atom in atoms)
        asked = asked or any(box in boxes for row in one[2] for box, by in row[3])
        if asked and one[0] not in names:
            return False
        if one[0] in names:
            lines = [wish[1] for row in one[2] for wish in row[2]]
            lines += [by for row in one[2] for box, by in row[3] if box in boxes and by is not None]
            if any(name not in boxes for some in lines for name, by in some[1]):
                return False
    return all(name in boxes for atom in atoms if atom[0] == "wish" for name, by in atom[1][1][1])


def fewest(system, saying):
    """The machines' names and boxes that are kept, found here by trying all."""
    atoms = atoms_of(saying)
    names = [one[0] for one in system[2]]

    def least_of(must):
        told = []
        for some in itertools.product((False, True), repeat=len(names) + len(system[0])):
            chosen = [name for name, keep in zip(names, some) if keep]
            boxes = [box for box, keep in zip(system[0], some[len(names):]) if keep]
            if set(must) <= set(chosen) and is_closed(system, atoms, chosen, boxes):
                told.append((len(chosen) + len(boxes), chosen, boxes))
        told.sort(key=lambda one: one[0])
        return told[0][1:]
    kept = least_of([])
    return kept if kept[0] else least_of(names[:1])


class Unasked(unittest.TestCase):
    def kept(self, system, saying):
        """What is kept, all else being looked at."""
        look_at_system(system)
        before = copy.deepcopy(system)
        rung = unasked(system, saying)
        self.assertEqual(system, before)
        word, upper, lower, meaning = rung
        self.assertEqual((word, upper), ("more", system))
        self.assertIs(is_rung(rung), True, rung)
        self.assertIs(is_shown(rung, saying), True)
        self.assertEqual(led_saying(rung, saying), saying)
        names = [one[0] for one in lower[2]]
        self.assertEqual(names, [one[0] for one in system[2] if one[0] in names])
        self.assertEqual(meaning, tuple(
            (names.index(name), tuple((place, place) for place in places)) if name in names else None
            for name, places, rows in system[2]))
        self.check_lower(system, lower)
        if len(names) == len(system[2]) and lower[0] == system[0]:
            self.assertEqual(lower, system)
        self.assertEqual(unasked(lower, saying), ("more", lower, lower, itself(lower)))
        self.assertEqual(unasked(system, saying), rung)
        return names, list(lower[0])

    def check_lower(self, system, lower):
        boxes, begins, machines, fair = lower
        self.assertEqual(fair, system[3])
        self.assertEqual(begins, tuple(wish for wish in system[1] if all(name in boxes for name, by in wish[1][1])))
        for name, places, rows in machines:
            old = [one for one in system[2] if one[0] == name][0]
            self.assertEqual(places, old[1])
            self.assertEqual(rows, tuple(
                with_part(row, 3, tuple(one for one in row[3] if one[0] in boxes)) for row in old[2]))

    SYSTEM = (("x", "y", "z"), (least(0, x=1), least(0, y=1, z=1), least(0, z=1), least(7)), (
        machine("one", ("down", (least(-1, x=1),), (("x", line(-1, x=1)),))),
        machine("two", ("up", (), (("x", line(0, x=1, y=1)),))),
        machine("three", ("turn", (), (("y", None),)), ("on", (), ())),
        machine("four", ("stay", (), (("z", line(1, z=1)),))),
    ), ())

    def test_deeds_of_the_saying(self):
        self.assertEqual(self.kept(self.SYSTEM, ("deed", "down")), (["one", "two", "three"], ["x", "y"]))
        self.assertEqual(self.kept(self.SYSTEM, ("ever", ("deed", "up"))), (["two"], []))
        self.assertEqual(self.kept(self.SYSTEM, ("deed", "on")), (["three"], []))
        self.assertEqual(self.kept(self.SYSTEM, ("and", ("deed", "stay"), ("deed", "on"))), (["three", "four"], []))

    def test_places_of_the_saying(self):
        self.assertEqual(self.kept(self.SYSTEM, ("place", "four", "a")), (["four"], []))
        self.assertEqual(self.kept(self.SYSTEM, ("not", ("place", "one", "a"))), (["one", "two", "three"], ["x", "y"]))

    def test_wishes_of_the_saying(self):
        self.assertEqual(self.kept(self.SYSTEM, ("wish", least(0, z=1))), (["four"], ["z"]))
        self.assertEqual(self.kept(self.SYSTEM, ("wish", least(0, y=1))), (["three"], ["y"]))
        self.assertEqual(self.kept(self.SYSTEM, ("wish", least(0, x=1))), (["one", "two", "three"], ["x", "y"]))
        self.assertEqual(self.kept(self.SYSTEM, ("wish", least(0, x=1, z=1))),
                         (["one", "two", "three", "four"], ["x", "y", "z"]))

    def test_rest(self):
        for saying in (("deed", "rest"), ("always", ("not", ("deed", "rest")))):
            self.assertEqual(self.kept(self.SYSTEM, saying), (["one", "two", "three", "four"], ["x", "y"]))

    def test_nothing_of_these(self):
        # The first machine is kept, with what hangs on that.
        self.assertEqual(self.kept(self.SYSTEM, YES), (["one", "two", "three"], ["x", "y"]))
        self.assertEqual(self.kept(self.SYSTEM, ("always", ("wish", least(1)))), (["one", "two", "three"], ["x", "y"]))
        turned = with_part(self.SYSTEM, 2, self.SYSTEM[2][::-1])
        self.assertEqual(self.kept(turned, YES), (["four"], []))
        # A box that nothing sets, which the saying names: no machine is kept by it.
        system = with_part(self.SYSTEM, 2, self.SYSTEM[2][3:])
        self.assertEqual(self.kept(system, ("wish", least(0, y=1))), (["four"], ["y"]))

    def test_fair_and_shared_deeds(self):
        self.assertEqual(self.kept(with_part(self.SYSTEM, 3, ("stay", "up")), YES), (["two", "four"], []))
        shared = with_part(self.SYSTEM, 2, self.SYSTEM[2] + ())
        shared = with_part(shared, 2, shared[2][:3] + (machine("four", ("on", (), ())),))
        self.assertEqual(self.kept(shared, YES), (["three", "four"], []))
        self.assertEqual(self.kept(shared, ("deed", "up")), (["two", "three", "four"], []))

    def test_a_read_sets_too(self):
        system = (("x", "y"), (), (machine("one", ("go", (least(0, x=1),), ())),
                                   machine("two", ("take", (least(0, y=1),), (("x", None),)))), ())
        self.assertEqual(self.kept(system, ("deed", "go")), (["one", "two"], ["x", "y"]))
        self.assertEqual(self.kept(system, ("deed", "take")), (["two"], ["y"]))

    def test_machines_called_as_deeds(self):
        system = ((), (), (machine("one", ("two", (), ())), machine("two", ("three", (), ()))), ())
        self.assertEqual(self.kept(system, ("deed", "two")), (["one"], []))
        self.assertEqual(self.kept(system, ("deed", "three")), (["two"], []))
        self.assertEqual(self.kept(system, ("place", "two", "a")), (["two"], []))

    def test_lines_of_boxes_that_are_not_kept(self):
        system = (("x", "y"), (), (machine("one", ("go", (), (("x", line(0, y=1)),))),), ())
        self.assertEqual(self.kept(system, ("deed", "go")), (["one"], []))
        self.assertEqual(self.kept(system, ("wish", least(0, x=1))), (["one"], ["x", "y"]))

    def test_the_same_system(self):
        system = with_part(self.SYSTEM, 2, self.SYSTEM[2][:3])
        system = with_part(with_part(system, 0, ("x", "y")), 1, (least(0, x=1), least(0, y=1)))
        self.assertEqual(unasked(system, ("wish", least(0, x=1))), ("more", system, system, itself(system)))
        self.assertEqual(unasked(saying=("deed", "down"), system=system), ("more", system, system, itself(system)))

    def test_by_chance(self):
        chance = chance_of(191)
        less = 0
        for _ in range(200):
            system = some_system(chance)
            atoms = atoms_over(system)[:-1] + [YES]
            wishes = some_wishes(chance, 2, list(system[0]))
            atoms += [("wish", wish) for wish in wishes if wish[0] != "just"] * 3
            saying = some_saying_over(chance, atoms + ([("deed", "rest")] if chance.random() < 0.1 else []), 3)
            names, boxes = self.kept(system, saying)
            self.assertEqual((names, boxes), tuple(fewest(system, saying)), (system, saying))
            less += len(names) < len(system[2]) or len(boxes) < len(system[0])
        self.assertGreater(less, 40)

    def test_what_holds_below_holds_above(self):
        chance = chance_of(192)
        for _ in range(120):
            system = some_small_system(chance, machines=3)
            saying = some_saying_over(chance, atoms_over(system), 3)
            rung = unasked(system, saying)
            if Table(rung[2], saying).paper() is not None:
                self.assertIsNotNone(Table(system, saying).paper())

    def test_no_system_then_no_saying(self):
        for thing in anything_but() + [with_part(self.SYSTEM, 3, ("no",))]:
            for saying in (YES, None):
                with self.assertRaises(NoSystem):
                    unasked(thing, saying)
            with self.assertRaises(NoSaying):
                unasked(self.SYSTEM, thing)


if __name__ == "__main__":
    unittest.main()
