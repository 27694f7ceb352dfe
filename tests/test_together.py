import copy
import unittest

from glassladder.errors import NoSaying, NoSystem
from glassladder.rungs import is_rung, is_shown, led_saying
from glassladder.sayings import atoms_of
from glassladder.systems import look_at_system
from glassladder.together import together
from tests.machines import some_system, with_part
from tests.papers import Table, atoms_over, some_saying_over, some_small_system
from tests.samples import anything_but, chance_of, least, line
from tests.test_unasked import itself

YES = ("yes",)
X = least(0, x=1)


def row(ahead, deed, to, wishes=(), sets=()):
    return (ahead, deed, wishes, sets, to)


def system_of(*rows, places="abcdef", boxes=("x", "y"), fair=()):
    """A system of one machine with these rows."""
    return (boxes, (), (("m", tuple(places), rows),), fair)


def partings(places):
    """All ways to put places into lots."""
    if not places:
        return [[]]
    told = []
    for some in partings(places[1:]):
        told.append([[places[0]]] + some)
        told.extend(some[:at] + [[places[0]] + lot] + some[at + 1:] for at, lot in enumerate(some))
    return told


def is_standing(machine, named, lots):
    """Whether the places of each lot are alike, and none is named."""
    homes = {place: at for at, lot in enumerate(lots) for place in lot}
    alike = {place: {(one[1], one[2], one[3], homes[one[4]]) for one in machine[2] if one[0] == place}
             for place in machine[1]}
    return all(len(lot) == 1 or (not set(lot) & set(named) and all(alike[place] == alike[lot[0]] for place in lot))
               for lot in lots)


def fewest_lots(machine, named):
    """The fewest lots that stand, found here by trying all."""
    some = [lots for lots in partings(list(machine[1])) if is_standing(machine, named, lots)]
    best = min(map(len, some))
    return [lots for lots in some if len(lots) == best]


class Together(unittest.TestCase):
    def lots(self, system, saying=YES):
        """The lots of the machines' places, as texts, all else being looked at."""
        look_at_system(system)
        before = copy.deepcopy(system)
        rung = together(system, saying)
        self.assertEqual(system, before)
        word, upper, lower, meaning = rung
        self.assertEqual((word, upper, lower[:2], lower[3]), ("same", system, system[:2], system[3]))
        self.assertIs(is_rung(rung), True, rung)
        self.assertIs(is_rung(with_part(rung, 0, "more")), True)
        self.assertIs(is_shown(rung, saying), True)
        self.assertEqual(led_saying(rung, saying), saying)
        told = []
        for n, (machine, part) in enumerate(zip(system[2], meaning)):
            self.assertEqual((part[0], [pair[0] for pair in part[1]]), (n, list(machine[1])))
            told.append(self.lots_of(machine, lower[2][n], dict(part[1])))
        self.assertEqual(together(lower, saying), ("same", lower, lower, itself(lower)))
        self.assertEqual(together(system, saying), rung)
        return told

    def lots_of(self, machine, low, led):
        """The lots of a machine's places, called by and standing in the order of their first places."""
        lots = {}
        for place in machine[1]:
            lots.setdefault(led[place], []).append(place)
        self.assertEqual([lot[0] for lot in lots.values()], list(lots))
        self.assertEqual((low[0], low[1]), (machine[0], tuple(lots)))
        rows = []
        for one in machine[2]:
            one = with_part(one, 4, led[one[4]])
            if one[0] in lots and one not in rows:
                rows.append(one)
        self.assertEqual(low[2], tuple(rows))
        return ["".join(lot) for lot in lots.values()]

    def test_places_without_rows(self):
        self.assertEqual(self.lots(system_of()), [["abcdef"]])
        self.assertEqual(self.lots(system_of(places="a")), [["a"]])
        self.assertEqual(self.lots(system_of(row("a", "go", "b"), places="abc")), [["a", "bc"]])

    def test_named_places(self):
        system = system_of(places="abc")
        for place, lots in (("a", ["a", "bc"]), ("b", ["ac", "b"]), ("c", ["ab", "c"])):
            self.assertEqual(self.lots(system, ("ever", ("place", "m", place))), [lots])
        self.assertEqual(self.lots(system, ("and", ("place", "m", "a"), ("place", "m", "c"))), [["a", "b", "c"]])
        two = with_part(system, 2, system[2] + (("n", ("a", "b"), ()),))
        self.assertEqual(self.lots(two, ("place", "n", "a")), [["abc"], ["a", "b"]])
        self.assertEqual(self.lots(two, ("place", "m", "a")), [["a", "bc"], ["ab"]])

    def test_rows_in_whatever_order_and_like_ones_once(self):
        rows = (row("a", "go", "a"), row("a", "stay", "a"), row("b", "stay", "b"), row("b", "go", "b"),
                row("b", "go", "a"))
        self.assertEqual(self.lots(system_of(*rows, places="ab")), [["ab"]])
        self.assertEqual(together(system_of(*rows, places="ab"), YES)[2][2][0][2],
                         (row("a", "go", "a"), row("a", "stay", "a")))
        self.assertEqual(together(system_of(*rows[::-1], places="ab"), YES)[2][2][0][2],
                         (row("a", "stay", "a"), row("a", "go", "a")))
        twice = (row("a", "go", "a"), row("a", "go", "b"), row("b", "go", "a"), row("a", "go", "a"))
        self.assertEqual(together(system_of(*twice, places="ab"), YES)[2][2][0][2], (row("a", "go", "a"),))

    def test_rows_that_are_not_alike(self):
        for one, other in (((), (X,)), ((X, least(1)), (least(1), X)), ((X,), (X, X))):
            rows = (row("a", "go", "a", one), row("b", "go", "a", other))
            self.assertEqual(self.lots(system_of(*rows, places="ab")), [["a", "b"]])
            self.assertEqual(self.lots(system_of(rows[0], with_part(rows[1], 2, one), places="ab")), [["ab"]])
        for one, other in (((), (("x", line(1)),)), ((("x", None),), (("x", line(1)),)),
                           ((("x", None),), (("y", None),))):
            rows = (row("a", "go", "a", (), one), row("b", "go", "a", (), other))
            self.assertEqual(self.lots(system_of(*rows, places="ab")), [["a", "b"]])
            self.assertEqual(self.lots(system_of(rows[0], with_part(rows[1], 3, one), places="ab")), [["ab"]])
        self.assertEqual(self.lots(system_of(row("a", "go", "a"), row("b", "come", "a"), places="ab")), [["a", "b"]])

    def test_parted_again_and_again(self):
        # Each leads to the next one: only the last one hasn't a row, and so all are parted.
        rows = tuple(row(one, "go", other) for one, other in zip("abcde", "bcdef"))
        self.assertEqual(self.lots(system_of(*rows)), [["a", "b", "c", "d", "e", "f"]])
        ring = rows + (row("f", "go", "a"),)
        self.assertEqual(self.lots(system_of(*ring)), [["abcdef"]])
        self.assertEqual(self.lots(system_of(*ring), ("place", "m", "a")), [["a", "b", "c", "d", "e", "f"]])
        two = tuple(row(one, "go", other) for one, other in zip("abcdef", "badcfe"))
        self.assertEqual(self.lots(system_of(*two), ("place", "m", "c")), [["abef", "c", "d"]])

    def test_lots_by_their_first_places(self):
        rows = (row("c", "go", "d"), row("e", "go", "f"), row("b", "go", "b"))
        self.assertEqual(self.lots(system_of(*rows)), [["adf", "b", "ce"]])
        lower = together(system_of(*rows), YES)[2]
        self.assertEqual(lower[2], (("m", ("a", "b", "c"), (row("c", "go", "a"), row("b", "go", "b"))),))
        self.assertEqual(together(system_of(*rows), YES)[3], ((0, (
            ("a", "a"), ("b", "b"), ("c", "c"), ("d", "a"), ("e", "c"), ("f", "a"))),))

    def test_fair_deeds_stay(self):
        system = system_of(row("a", "go", "b"), row("b", "go", "a"), places="ab", fair=("go",))
        self.assertEqual(self.lots(system), [["ab"]])
        self.assertEqual(together(saying=YES, system=system)[2],
                         system_of(row("a", "go", "a"), places="a", fair=("go",)))

    def test_by_chance(self):
        chance = chance_of(201)
        less = 0
        for at in range(220):
            system = some_system(chance) if at % 2 else some_small_system(chance, machines=3)
            saying = some_saying_over(chance, atoms_over(system) + [YES] * 8, 3)
            lots = self.lots(system, saying)
            for machine, some in zip(system[2], lots):
                named = [atom[2] for atom in atoms_of(saying) if atom[:2] == ("place", machine[0])]
                wanted = [sorted(map(sorted, one)) for one in fewest_lots(machine, named)]
                self.assertEqual(wanted, [sorted(map(sorted, some))])
                less += len(some) < len(machine[1])
        self.assertGreater(less, 60)

    def test_what_holds_below_holds_above_and_the_other_way_about(self):
        chance = chance_of(202)
        words = []
        for _ in range(120):
            system = some_small_system(chance, machines=3)
            saying = some_saying_over(chance, atoms_over(system), 3)
            lower = together(system, saying)[2]
            word = Table(lower, saying).paper() is not None
            self.assertIs(Table(system, saying).paper() is not None, word)
            words.append((word, lower != system))
        self.assertGreater(words.count((True, True)), 10)
        self.assertGreater(words.count((False, True)), 10)

    def test_no_system_then_no_saying(self):
        system = system_of()
        for thing in anything_but() + [with_part(system, 3, ("no",))]:
            for saying in (YES, None):
                with self.assertRaises(NoSystem):
                    together(thing, saying)
            with self.assertRaises(NoSaying):
                together(system, thing)


if __name__ == "__main__":
    unittest.main()
