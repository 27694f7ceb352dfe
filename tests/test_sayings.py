import unittest

from glassladder.errors import GlassError, NoSaying, NoSystem
from glassladder.sayings import atoms_of, look_at_saying
from tests.machines import BARE, SYSTEM, with_part
from tests.samples import above, anything_but, just, least, line

YES = ("yes",)
LOW = ("place", "count", "low")
ON = ("place", "look", "on")
DOWN = ("deed", "down")
REST = ("deed", "rest")
WISH = ("wish", least(-1, x=1))
OTHER = ("wish", above(0, y=1, z=-1))


def within(many, saying=YES):
    """A saying with so many within one another, what is handed in being one."""
    for _ in range(many - 1):
        saying = ("not", saying)
    return saying


class Looked(unittest.TestCase):
    def test_sayings(self):
        for saying in (YES, LOW, ON, DOWN, REST, WISH, OTHER, ("wish", least(5)), ("place", "idle", "here"),
                       ("not", YES), ("and", LOW, DOWN), ("or", LOW, LOW), ("always", WISH), ("ever", REST),
                       ("until", ("not", LOW), ("and", ON, ("ever", OTHER)))):
            self.assertIsNone(look_at_saying(SYSTEM, saying))
        self.assertIsNone(look_at_saying(thing=YES, system=BARE))
        self.assertIsNone(look_at_saying(BARE, REST))

    def refused(self, thing, system=SYSTEM):
        with self.assertRaises(NoSaying) as caught:
            look_at_saying(system, thing)
        self.assertIsInstance(caught.exception, GlassError)

    def test_no_sayings(self):
        others = [
            ("no",), ["yes"], ("yes", YES), ("yes", ()), ("Yes",), ("place", "count"), ("place", "count", "off"),
            ("place", "no", "low"), ("place", "look", "low"), ("place", "count", "low", "low"), ("place", None, "low"),
            ("place", "count", ["low"]), ("place", ["count"], "low"), ("place",), ("deed",), ("deed", "go"),
            ("deed", "low"), ("deed", None), ("deed", ["down"]), ("deed", "down", "down"), ("deed", ("down",)),
            ("wish",), ("wish", just(0, x=1)), ("wish", just(0)), ("wish", least(0, a=1)), ("wish", line(0)),
            ("wish", least(0), least(0)), ("wish", ["least", line(0)]), ("wish", None), least(0), ("not",),
            ("not", YES, YES), ("not", "yes"), ("not", ["yes"]), ("not", None), ("and", YES), ("and", YES, YES, YES),
            ("or", YES, None), ("or", ("no",), YES), ("always",), ("always", YES, YES), ("ever", []), ("until", YES),
            ("until", YES, ("deed", "go")), ("until", (YES, YES)), ("release", YES, YES), (YES,), (None, YES),
            (["not"], YES), (("not",), YES), ("is", 0), ("wishes", least(0)), ("is", least(-1, x=1)),
            {"yes": 1}, "yes", ("and", [YES, YES]), ("not", within(6)),
        ]
        for thing in others + anything_but():
            self.refused(thing)
            self.refused(("not", thing))
            self.refused(("until", YES, ("and", thing, YES)))

    def test_names_of_another_system(self):
        for thing in (LOW, DOWN, WISH):
            self.refused(thing, BARE)

    def test_six_within_one_another(self):
        for saying in (YES, LOW, REST, WISH):
            self.assertIsNone(look_at_saying(SYSTEM, within(6, saying)))
            self.refused(within(7, saying))
        for word in ("and", "or", "until"):
            self.assertIsNone(look_at_saying(SYSTEM, (word, YES, within(5))))
            self.assertIsNone(look_at_saying(SYSTEM, (word, within(5), LOW)))
            self.refused((word, YES, within(6)))
            self.refused((word, within(6), LOW))
        for word in ("always", "ever"):
            self.assertIsNone(look_at_saying(SYSTEM, (word, within(5))))
            self.refused((word, within(6)))
        self.refused(within(25))

    def test_a_full_one(self):
        saying = LOW
        for word in ("and", "or", "until", "and", "or"):
            saying = (word, saying, saying)
        self.assertIsNone(look_at_saying(SYSTEM, saying))
        self.refused(("not", saying))

    def test_no_system_goes_first(self):
        for thing in anything_but() + [with_part(SYSTEM, 3, ("no",))]:
            for saying in (YES, None):
                with self.assertRaises(NoSystem):
                    look_at_saying(thing, saying)


class Atoms(unittest.TestCase):
    def test_in_the_order_in_which_they_begin(self):
        self.assertEqual(atoms_of(YES), [])
        self.assertEqual(atoms_of(LOW), [LOW])
        self.assertEqual(atoms_of(("not", ("ever", WISH))), [WISH])
        self.assertEqual(atoms_of(("until", ("and", ON, LOW), ("or", DOWN, WISH))), [ON, LOW, DOWN, WISH])
        self.assertEqual(atoms_of(("until", ("and", DOWN, ("not", WISH)), ("or", YES, LOW))), [DOWN, WISH, LOW])

    def test_each_once(self):
        self.assertEqual(atoms_of(("and", LOW, LOW)), [LOW])
        self.assertEqual(atoms_of(("or", ("until", DOWN, LOW), ("and", LOW, ("or", REST, DOWN)))), [DOWN, LOW, REST])
        self.assertEqual(atoms_of(("and", ("wish", least(0, x=1)), ("wish", above(0, x=1)))),
                         [("wish", least(0, x=1)), ("wish", above(0, x=1))])

    def test_a_new_list_each_time(self):
        saying = ("and", LOW, DOWN)
        told = atoms_of(saying=saying)
        told.clear()
        self.assertEqual(atoms_of(saying), [LOW, DOWN])


if __name__ == "__main__":
    unittest.main()
