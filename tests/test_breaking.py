import unittest

from glassladder.breaking import is_breaking
from glassladder.drifting import counts, letters_of
from glassladder.errors import NoSaying, NoSystem
from glassladder.rounds import holds
from glassladder.sayings import atoms_of
from tests.machines import SYSTEM, with_part
from tests.papers import atoms_over, some_saying_over
from tests.runs import letters_by_laps, move, rest_of, some_real_runs
from tests.samples import above, anything_but, as_share, chance_of, least, line

UP = (("x",), (least(0, x=1),), (("m", ("a",), (("a", "up", (), (("x", line(1, x=1)),), "a"),)),), ("up",))
LOW = ("always", ("wish", above(3, x=-1)))


def run_from(x, lap=None):
    return ((("x", as_share(x)),), [], lap or [move("up", 0)])


class Breaking(unittest.TestCase):
    def test_breaks(self):
        self.assertIs(is_breaking(UP, LOW, run_from(0)), True)
        self.assertIs(is_breaking(thing=run_from(0), saying=LOW, system=UP), True)
        self.assertIs(is_breaking(UP, ("not", ("deed", "up")), run_from(7)), True)

    def test_does_not_break(self):
        self.assertIs(is_breaking(UP, ("not", LOW), run_from(0)), False)
        self.assertIs(is_breaking(UP, ("yes",), run_from(0)), False)

    def test_does_not_count(self):
        rests = run_from(0, [rest_of(UP)])
        self.assertIs(is_breaking(UP, ("ever", ("deed", "up")), rests), False)
        self.assertIs(is_breaking(with_part(UP, 3, ()), ("ever", ("deed", "up")), rests), True)
        self.assertIs(is_breaking(UP, ("ever", ("deed", "rest")), run_from(0, [move("up", 0)])), True)

    def test_is_no_real_run(self):
        self.assertIs(is_breaking(UP, LOW, run_from(-1)), False)
        self.assertIs(is_breaking(UP, LOW, run_from(0, [move("up", 1)])), False)
        self.assertIs(is_breaking(UP, LOW, run_from(0, [((), (), ())])), False)
        for thing in anything_but():
            self.assertIs(is_breaking(UP, LOW, thing), False)
            self.assertIs(is_breaking(UP, ("not", ("yes",)), thing), False)

    def test_many_laps(self):
        # x is above the bound behind so many laps: at the thousandth this is seen, behind it no more.
        for bound in (999, 1000):
            saying = ("always", ("wish", least(bound, x=-1)))
            self.assertIs(is_breaking(UP, saying, run_from(0)), bound == 999)
            self.assertIs(is_breaking(UP, saying, run_from(1)), bound in (999, 1000))
        self.assertIs(is_breaking(UP, ("and", ("not", ("yes",)), ("wish", least(2000, x=-1))), run_from(0)), False)

    def test_no_system_then_no_saying(self):
        for thing in anything_but():
            with self.assertRaises(NoSystem):
                is_breaking(thing, thing, thing)
            with self.assertRaises(NoSaying):
                is_breaking(SYSTEM, thing, thing)

    def test_by_chance(self):
        chance = chance_of(30)
        seen = {True: 0, False: 0}
        for system, run in some_real_runs(chance, 80):
            atoms = atoms_over(system) + [("wish", chance.choice((least, above))(chance.randint(-3, 3), x=sign))
                                          for sign in (1, -1)]
            for _ in range(4):
                saying = some_saying_over(chance, atoms, 3)
                told = is_breaking(system, saying, run)
                row = letters_of(system, run, atoms_of(saying))
                self.assertEqual(told, counts(system, run) and not holds(saying, row))
                self.assertFalse(told and is_breaking(system, ("not", saying), run))
                here = letters_by_laps(system, run, atoms_of(saying), 30)
                self.assertEqual(here[:len(row[0] + row[1])], (row[0] + row[1])[:len(here)])
                seen[told] += 1
        self.assertGreater(min(seen.values()), 40, seen)


if __name__ == "__main__":
    unittest.main()
