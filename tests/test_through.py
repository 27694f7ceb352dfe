import copy
import unittest

from glassladder.errors import NoSaying, NoSystem, TooMany
from glassladder.looker import is_why_so, look_at_joined
from glassladder.made import machine_of
from glassladder.through import begins_of, sought_by, table
from tests.machines import SYSTEM, some_system, with_part
from tests.papers import Table, atoms_over, some_saying_over, some_small_system
from tests.runs import some_counters, some_drifting_system
from tests.samples import above, anything_but, chance_of, just, least, line

REST = ("rest", (None,))
DOWN = ("down", (0,))
X = least(0, x=1)
NEVER = ("ever", ("not", ("yes",)))
FALLS = ("not", ("always", ("ever", ("deed", "down"))))


def down_system(wishes=(least(-1, x=1),), to=line(-1, x=1), begins=(), fair=()):
    return (("x",), begins, (("m", ("a",), (("a", "down", wishes, (("x", to),), "a"),)),), fair)


def some_case(chance):
    """A system, a saying and wishes by chance."""
    kind = chance.random()
    system = some_small_system(chance) if kind < 0.3 else some_drifting_system(chance) if kind < 0.8 else None
    while system is None:
        system = some_system(chance)
        if len(system[2]) > 2 or len(system[0]) > 2:
            system = None
    wishes = []
    for _ in range(chance.randint(0, 3)):
        parts = {box: chance.choice((0, 1, -1, 2)) for box in system[0]}
        wish = chance.choice((least, above))(chance.randint(-2, 2), **parts)
        if wish not in wishes:
            wishes.append(wish)
    atoms = atoms_over(system) + [("wish", wish) for wish in wishes]
    return system, some_saying_over(chance, atoms, 3), wishes


def wheels(*sizes):
    """Machines without boxes that turn by themselves, with so many places."""
    machines = []
    for name, deed, size in zip(("one", "two", "three", "four"), ("go", "come", "stay", "turn"), sizes):
        places = tuple("abcdef"[:size])
        rows = tuple((place, deed, (), (), places[(at + 1) % size]) for at, place in enumerate(places))
        machines.append((name, places, rows))
    return ((), (), tuple(machines), ())


class Tables(unittest.TestCase):
    def test_without_wishes(self):
        system = down_system()
        entries, begin, leads, ties = table(system, NEVER, [])
        self.assertEqual(entries, [(("a",), 0, ())])
        self.assertEqual(begin, ("to", 0))
        self.assertEqual(leads, [[(REST, 0, ("to", 0)), (DOWN, 0, ("to", 0))]])
        down = (0, 0, (), DOWN, 0, [least(-1, x=1)], {"x": line(-1, x=1)})
        self.assertEqual(ties, [(0, 0, (), REST, 0, [], {}), down])
        self.assertEqual(table(wishes=[], saying=NEVER, system=system), (entries, begin, leads, ties))

    def test_through_a_wish(self):
        system = down_system(begins=(least(-3, x=1),), fair=("down",))
        wish, other = least(-1, x=1), above(1, x=-1)
        entries, begin, leads, ties = table(system, NEVER, [wish])
        self.assertEqual(entries, [(("a",), 0, (wish,)), (("a",), 0, (other,))])
        # Begins grant the wish: there is no split.
        self.assertEqual(begin, ("to", 0))
        self.assertEqual(leads[0], [(REST, 0, ("to", 0)), (DOWN, 0, ("split", wish, ("to", 0), ("to", 1)))])
        # Where the wish isn't granted `down` is barred.
        self.assertEqual(leads[1], [(REST, 0, ("to", 1))])
        sets = {"x": line(-1, x=1)}
        self.assertEqual(ties, [
            (0, 0, (), REST, 0, [wish, wish], {}),
            (0, 0, (0,), DOWN, 0, [wish, wish, least(-2, x=1)], sets),
            (0, 1, (0,), DOWN, 0, [wish, wish, above(2, x=-1)], sets),
            (1, 1, (), REST, 0, [other, other], {}),
        ])

    def test_begin_splits(self):
        wishes = [least(0, x=1), above(-2, x=1)]
        entries, begin, leads, ties = table(down_system(begins=(least(5, x=1),)), NEVER, wishes)
        self.assertEqual(begin, ("split", wishes[0], ("split", wishes[1], ("to", 0), ("to", 1)), ("to", 2)))
        self.assertEqual([entry[2] for entry in entries[:3]],
                         [(wishes[0], wishes[1]), (wishes[0], least(2, x=-1)), (above(0, x=-1), least(2, x=-1))])

    def test_begins_that_nothing_grants(self):
        for begins in ((least(-1),), (above(0),), (least(0, x=1), above(0, x=-1))):
            for wishes in ([], [X], [X, above(3, x=2)]):
                self.assertEqual(table(down_system(begins=begins), NEVER, wishes), ([], ("barred",), [], []))

    def test_asks_that_are_not_so(self):
        # At stand 0 `down` is asked, or not: each step has one choice of the two.
        system = down_system()
        entries, begin, leads, ties = table(system, ("deed", "down"), [])
        choices = machine_of(("deed", "down"))[0][0]
        self.assertEqual(len(choices), 1)
        self.assertEqual(leads[0], [(REST, 0, ("to", 1))])
        self.assertEqual([(step, n) for step, n, fan in leads[1]], [(REST, 0), (DOWN, 0)])

    def test_wishes_that_are_asked(self):
        # The saying's contrary asks that x is below nought: then `down` is barred.
        entries, begin, leads, ties = table(down_system(), ("wish", X), [])
        self.assertEqual(leads[0], [(REST, 0, ("to", 1))])
        self.assertEqual(ties[0], (0, 1, (), REST, 0, [above(0, x=-1)], {}))
        entries, begin, leads, ties = table(down_system(), ("wish", X), [X])
        self.assertEqual(entries[:2], [(("a",), 0, (X,)), (("a",), 0, (above(0, x=-1),))])
        self.assertEqual(leads[0], [])

    def test_what_is_read(self):
        system = down_system(wishes=(), to=None)
        entries, begin, leads, ties = table(system, NEVER, [X])
        self.assertEqual(leads[0][1], (DOWN, 0, ("split", X, ("to", 0), ("to", 1))))
        read = (((0, 1), (("x'", (1, 1)),)))
        self.assertEqual(ties[1], (0, 0, (), DOWN, 0, [X, ("least", read)], {"x": read}))

    def test_a_wish_and_its_contrary(self):
        other = above(0, x=-1)
        entries, begin, leads, ties = table(down_system(), NEVER, [X, other])
        self.assertEqual(entries, [(("a",), 0, (X, X)), (("a",), 0, (other, other))])

    def test_by_chance(self):
        chance = chance_of(24)
        for _ in range(250):
            system, saying, wishes = some_case(chance)
            made = Table(system, saying, tuple(wishes))
            handed = list(wishes)
            found = table(system, saying, handed)
            self.assertEqual(handed, wishes)
            self.assertEqual(found[0], made.entries)
            self.assertEqual(found[1], made.begin)
            self.assertEqual(found[2], made.leads)
            self.assertEqual(found[3], made.ties)
            self.assertEqual(len(set(found[0])), len(found[0]))

    def test_four_hundred_entries(self):
        system = wheels(5, 5, 4, 4)
        self.assertEqual(len(table(system, NEVER, [])[0]), 400)
        # Behind the first moment nothing is asked: one stand more, and one entry more.
        with self.assertRaises(TooMany) as caught:
            table(system, ("not", ("yes",)), [])
        self.assertEqual(caught.exception.many, 400)
        with self.assertRaises(TooMany) as caught:
            table(wheels(6, 6, 6, 6), NEVER, [])
        self.assertEqual(caught.exception.many, 400)

    def test_no_system_then_no_saying(self):
        for thing in anything_but():
            with self.assertRaises(NoSystem):
                table(thing, thing, [])
            with self.assertRaises(NoSaying):
                table(SYSTEM, thing, [])

    def test_all_is_new(self):
        system = down_system(begins=(least(-3, x=1),))
        wishes = [least(-1, x=1)]
        first = table(system, NEVER, wishes)
        kept = copy.deepcopy(first)
        wishes.clear()
        self.assertEqual(first, kept)
        first[0].clear()
        first[2][0].clear()
        first[2].clear()
        for tie in first[3]:
            tie[5].clear()
            tie[6]["x"] = None
        first[3].clear()
        self.assertEqual(table(system, NEVER, [least(-1, x=1)]), kept)
        known = [id(tie[5]) for tie in kept[3]]
        self.assertEqual(len(set(known)), len(known))


class BeginsOf(unittest.TestCase):
    def test_fans(self):
        self.assertEqual(begins_of(("barred",)), [])
        self.assertEqual(begins_of(begin=("to", 3)), [3])
        fan = ("split", X, ("split", X, ("to", 5), ("to", 2)), ("split", X, ("barred",), ("to", 5)))
        self.assertEqual(begins_of(fan), [2, 5])
        self.assertEqual(begins_of(("split", X, ("to", 10), ("to", 9))), [9, 10])


def is_lap(found, many, stem, lap):
    """Whether ties of a table lead from a begin, the lap back to its begin, with all lots."""
    rows = stem + lap
    if not lap or not all(tie in found[3] for tie in rows) or rows[0][0] not in begins_of(found[1]):
        return False
    if any(one[1] != other[0] for one, other in zip(rows, rows[1:])) or lap[-1][1] != lap[0][0]:
        return False
    return {lot for tie in lap for lot in tie[2]} == set(range(many))


class SoughtBy(unittest.TestCase):
    def test_no_ranks(self):
        system = down_system()
        found = table(system, FALLS, [])
        word, stem, lap = sought_by(system, FALLS, found, [])
        self.assertEqual(word, "lap")
        self.assertTrue(is_lap(found, 1, stem, lap))
        self.assertIn("down", [tie[3][0] for tie in lap])

    def test_a_rank(self):
        system = down_system()
        found = table(system, FALLS, [])
        for rank in (line(0, x=1), line(-1, x=1), line(7, x=5)):
            word, why = sought_by(ranks=[rank], found=found, saying=FALLS, system=system)
            self.assertEqual(word, "why")
            self.assertIsNone(look_at_joined(system, FALLS, found[:3] + (why,)))

    def test_what_is_no_rank(self):
        system = down_system()
        found = table(system, FALLS, [])
        # One rises, one doesn't fall, one falls by less than one, one may be below nought.
        for rank in (line(0, x=-1), line(3), line(0, x="1/2"), line(-2, x=1)):
            self.assertEqual(sought_by(system, FALLS, found, [rank])[0], "lap", rank)

    def test_several_ranks(self):
        # Each of two boxes is counted down while the other one stays, and by each of both deeds one is done.
        rows = (("a", "down", (least(-1, x=1),), (("x", line(-1, x=1)),), "a"),
                ("a", "less", (least(-1, y=1),), (("x", None), ("y", line(-1, y=1))), "a"))
        system = (("x", "y"), (), (("m", ("a",), rows),), ())
        saying = ("not", ("always", ("ever", ("or", ("deed", "down"), ("deed", "less")))))
        found = table(system, saying, [])
        x, y = line(0, x=1), line(0, y=1)
        self.assertEqual(sought_by(system, saying, found, [x])[0], "lap")
        self.assertEqual(sought_by(system, saying, found, [y])[0], "lap")
        for ranks in ([x, y], [y, x], [x, x, y], [y, x, y], [line(0), y, line(0, x=-1), x]):
            word, why = sought_by(system, saying, found, ranks)
            self.assertEqual(word, "why")
            self.assertIsNone(look_at_joined(system, saying, found[:3] + (why,)))

    def test_the_stem_may_go_along_ties_that_fall(self):
        # x is counted down, then one goes on to b: a lap at b is come to behind a tie that is cut.
        rows = (("a", "down", (least(-1, x=1),), (("x", line(-1, x=1)),), "b"),
                ("b", "down", (least(-1, x=1),), (("x", line(-1, x=1)),), "a"),
                ("b", "stay", (), (), "c"), ("c", "turn", (), (), "c"))
        system = (("x",), (), (("m", ("a", "b", "c"), rows),), ("turn",))
        found = table(system, NEVER, [])
        word, stem, lap = sought_by(system, NEVER, found, [line(0, x=1)])
        self.assertTrue(is_lap(found, 1, stem, lap))
        self.assertEqual([tie[3][0] for tie in stem], ["down", "stay"])

    def test_nothing_is_come_to(self):
        system = down_system(begins=(least(-1),))
        found = table(system, FALLS, [])
        word, why = sought_by(system, FALLS, found, [])
        self.assertEqual(word, "why")
        self.assertIsNone(look_at_joined(system, FALLS, found[:3] + (why,)))

    def test_by_chance(self):
        chance = chance_of(25)
        seen = {}
        for _ in range(300):
            if chance.random() < 0.5:
                system, saying, wishes = some_case(chance)
            else:
                system, wishes = some_counters(chance), []
                saying = ("not", ("always", ("ever", ("deed", chance.choice(system[2][0][2])[1]))))
            found = table(system, saying, wishes)
            ranks = [line(chance.randint(-2, 2), **{box: chance.choice((0, 1, 1, -1, 2)) for box in system[0]})
                     for _ in range(chance.randint(0, 4))]
            many = machine_of(saying)[1] + len(system[3])
            before = copy.deepcopy((found, ranks))
            word, *told = sought_by(system, saying, found, ranks)
            self.assertEqual((found, ranks), before)
            if word == "lap":
                self.assertTrue(is_lap(found, many, *told))
            else:
                self.assertEqual(word, "why")
                self.assertIsNone(look_at_joined(system, saying, found[:3] + (told[0],)))
                self.assertTrue(is_why_so(system, saying, found[:3] + (told[0],)))
            key = (word, "rank" in repr(told) if word == "why" else None)
            seen[key] = seen.get(key, 0) + 1
            # With more ranks no lap comes where there was none.
            if word == "why":
                self.assertEqual(sought_by(system, saying, found, [line(0)] + ranks)[0], "why")
        self.assertGreater(min(seen.values()), 5, seen)
        self.assertEqual(len(seen), 3)

    def test_ties_are_new(self):
        system = down_system()
        found = table(system, FALLS, [])
        before = copy.deepcopy(found)
        word, stem, lap = sought_by(system, FALLS, found, [])
        for tie in stem + lap:
            tie[5].append(None)
            tie[6]["x"] = None
        self.assertEqual(found, before)
        again = sought_by(system, FALLS, found, [])
        for tie in again[1] + again[2]:
            self.assertIn(tie, found[3])


class Through(unittest.TestCase):
    def test_just_is_in_no_entry(self):
        system = down_system(wishes=(just(-1, x=1),))
        for entry in table(system, FALLS, [least(-1, x=1), least(1, x=-1)])[0]:
            self.assertNotIn("just", [word for word, one in entry[2]])

    def test_names_in_another_order_tell_the_same(self):
        # What is asked twice alike is told alike.
        system = with_part(down_system(), 1, (least(0, x=1),))
        self.assertEqual(table(system, FALLS, [X]), table(system, FALLS, [X]))


if __name__ == "__main__":
    unittest.main()
