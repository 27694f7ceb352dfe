import copy
import unittest

from glassladder.breaking import is_breaking
from glassladder.errors import GlassError, NoChange, NoDeeds, NoMachine, NoName, NoSaying, NoSystem, TooMany
from glassladder.house import House
from glassladder.ladder import Ladder
from glassladder.looker import look_at_joined
from tests.houses import Mirror
from tests.machines import SYSTEM, with_machine, with_part
from tests.papers import atoms_over, some_saying_over, some_small_system
from tests.runs import some_counters, some_drifting_system
from tests.samples import above, anything_but, chance_of, just, least, line

DOWN = ("a", "down", (least(-1, x=1),), (("x", line(-1, x=1)),), "a")
UP = ("a", "down", (least(-1, x=1),), (("x", line(1, x=1)),), "a")
RING = ("r", ("p", "q"), (("p", "tick", (), (), "q"), ("q", "tock", (), (), "p")))
SYSTEM_DOWN = (("x",), (least(0, x=1),), (("m", ("a",), (DOWN,)), RING), ())
FALLS = ("not", ("always", ("ever", ("deed", "down"))))
STAYS = ("always", ("wish", least(0, x=1)))
TICKS = ("always", ("ever", ("deed", "tick")))
ASKED = ("word", "paper", "run", "way", "asks")


def state(house):
    """All that a house tells, but for its log."""
    told = {name: [getattr(house, one)(name) for one in ASKED] for name in house.sayings()}
    return copy.deepcopy((house.system(), house.sayings(), told, len(house)))


class Case(unittest.TestCase):
    def refuses(self, error, deed, house, *handed, **named):
        before = state(house)
        log = house.log()
        with self.assertRaises(error) as caught:
            getattr(house, deed)(*handed, **named)
        self.assertEqual(state(house), before)
        self.assertEqual(house.log(), log)
        return caught.exception

    def is_true(self, house):
        """Holds the words against the texts as they are."""
        for name, saying in house.sayings().items():
            word, paper, run = house.word(name), house.paper(name), house.run(name)
            self.assertEqual((word == "holds", word == "broken"), (paper is not None, run is not None))
            if paper is not None:
                self.assertIsNone(look_at_joined(house.system(), saying, paper))
            if run is not None:
                self.assertTrue(is_breaking(house.system(), saying, run))


class Deeds(Case):
    def test_first(self):
        house = House(SYSTEM_DOWN)
        self.assertEqual((house.system(), house.sayings(), house.log(), len(house)), (SYSTEM_DOWN, {}, [], 0))
        self.assertEqual(House(system=SYSTEM_DOWN, rounds=12, laps=2, rungs=("unasked", "together")), house)
        with self.assertRaises(TypeError):
            House(SYSTEM_DOWN, ())
        for thing in anything_but():
            with self.assertRaises(NoSystem):
                House(thing)

    def test_put(self):
        house = House(SYSTEM_DOWN)
        self.assertIsNone(house.put("falls", FALLS))
        house.put(saying=TICKS, name="ticks")
        self.assertEqual(house.sayings(), {"falls": FALLS, "ticks": TICKS})
        self.assertEqual((house.word("falls"), house.word("ticks")), ("holds", "broken"))
        self.assertEqual((house.way("falls"), house.way("ticks")), ("stayed", "searched"))
        self.assertEqual((house.asks("falls"), house.asks("ticks")), ([], []))
        self.assertEqual(len(house), 2)
        self.is_true(house)
        # In the stead of an elder one.
        house.put("falls", STAYS)
        self.assertEqual(house.sayings()["falls"], STAYS)
        self.assertEqual((house.way("falls"), house.way("ticks")), ("searched", "stayed"))
        house.put("falls", STAYS)
        self.assertEqual((house.way("falls"), len(house)), ("stayed", 4))
        self.is_true(house)

    def test_put_is_refused(self):
        house = House(SYSTEM_DOWN)
        house.put("one", FALLS)
        for thing in anything_but("a", "x", "rest", "least", "yes"):
            self.refuses(NoName, "put", house, thing, thing)
            self.refuses(NoName, "put", house, thing, FALLS)
        for thing in anything_but():
            self.refuses(NoSaying, "put", house, "two", thing)
        house.put("rest", FALLS)
        house.put("abcdefgh", TICKS)
        house.put("four", TICKS)
        self.assertEqual(self.refuses(TooMany, "put", house, "five", FALLS).many, 5)
        self.refuses(NoSaying, "put", house, "five", ("no",))
        self.refuses(NoName, "put", house, "Five", FALLS)
        house.put("four", FALLS)
        self.assertEqual(len(house.sayings()), 4)

    def test_drop(self):
        house = House(SYSTEM_DOWN)
        house.put("one", FALLS)
        house.put("two", TICKS)
        for thing in anything_but() + ["three", "One"]:
            self.refuses(NoName, "drop", house, thing)
        self.assertIsNone(house.drop(name="one"))
        self.assertEqual((house.sayings(), house.way("two"), len(house)), ({"two": TICKS}, "stayed", 3))
        self.refuses(NoName, "drop", house, "one")
        house.drop("two")
        self.assertEqual(house.sayings(), {})

    def test_asked_of_no_name(self):
        house = House(SYSTEM_DOWN)
        house.put("one", FALLS)
        for thing in anything_but() + ["two", "", ("one",), ["one"]]:
            for asked in ASKED:
                self.refuses(NoName, asked, house, thing)

    def test_other_row(self):
        house = House(SYSTEM_DOWN)
        house.put("falls", FALLS)
        house.put("stays", STAYS)
        house.put("ticks", TICKS)
        self.assertIsNone(house.other_row(number=0, other=UP, machine=0))
        self.assertEqual(house.system(), with_machine(SYSTEM_DOWN, 0, ("m", ("a",), (UP,))))
        self.assertEqual([house.way(name) for name in ("falls", "stays", "ticks")], ["searched", "stayed", "replayed"])
        self.assertEqual([house.word(name) for name in ("falls", "stays", "ticks")], ["broken", "holds", "broken"])
        self.is_true(house)
        self.assertEqual(len(house), 4)
        # The same row again: nothing turned.
        house.other_row(0, 0, UP)
        self.assertEqual([house.way(name) for name in ("falls", "stays", "ticks")], ["stayed"] * 3)
        self.assertEqual([house.asks(name) for name in ("falls", "stays", "ticks")], [[], [], []])

    def test_other_row_is_refused(self):
        house = House(SYSTEM_DOWN)
        house.put("falls", FALLS)
        for thing in anything_but(0, 1):
            self.refuses(NoMachine, "other_row", house, thing, thing, thing)
            self.refuses(NoMachine, "other_row", house, thing, 0, UP)
            self.refuses(NoMachine, "other_row", house, 0, thing, UP)
        for machine, number in ((2, 0), (0, 1), (1, 2), (-1, 0), (0, -1), (False, 0), (0, False), (True, 0)):
            self.refuses(NoMachine, "other_row", house, machine, number, UP)
        for thing in anything_but():
            self.assertEqual(self.refuses(NoSystem, "other_row", house, 0, 0, thing).part, "machines")
            self.assertEqual(self.refuses(NoSystem, "other_row", house, 1, 0, thing).at, 1)
        error = self.refuses(NoSystem, "other_row", house, 1, 0, ("p", "down", (), (("x", None),), "q"))
        self.assertEqual((error.part, error.at), ("sets", "down"))
        # The deed that the saying names is done by no row any more.
        self.refuses(NoSaying, "other_row", house, 0, 0, with_part(DOWN, 1, "less"))
        fair = House(with_part(SYSTEM_DOWN, 3, ("down",)))
        self.assertEqual(self.refuses(NoSystem, "other_row", fair, 0, 0, with_part(DOWN, 1, "less")).part, "fair")

    def test_begins(self):
        house = House(SYSTEM_DOWN)
        house.put("falls", FALLS)
        house.put("stays", STAYS)
        house.put("ticks", TICKS)
        self.assertIsNone(house.begins(wishes=(above(5, x=1),)))
        self.assertEqual(house.system()[1], (above(5, x=1),))
        self.assertEqual([house.way(name) for name in ("falls", "stays", "ticks")], ["stayed", "searched", "replayed"])
        self.assertEqual([house.asks(name) for name in ("falls", "stays", "ticks")], [[("begin",)], [("begin",)], []])
        self.assertEqual(house.word("stays"), "broken")
        self.is_true(house)
        house.begins((least(-1),))
        self.assertEqual([house.word(name) for name in ("falls", "stays", "ticks")], ["holds"] * 3)
        self.is_true(house)

    def test_begins_are_refused(self):
        house = House(SYSTEM_DOWN)
        for thing in anything_but(()) + [[least(0, x=1)], (least(0, y=1),), (least(0, x=1),) * 9, least(0, x=1)]:
            error = self.refuses(NoSystem, "begins", house, thing)
            self.assertEqual((error.part, error.at), ("begins", None))
        house.begins((least(0, x=1),) * 8)
        house.begins(())
        self.assertEqual(len(house), 2)


class Asks(Case):
    def test_of_the_turned_row(self):
        house = House(SYSTEM_DOWN, rungs=())
        house.put("stays", STAYS)
        entries = house.paper("stays")[0]
        house.other_row(0, 0, UP)
        self.assertEqual(house.way("stays"), "stayed")
        asks = house.asks("stays")
        self.assertTrue(asks)
        self.assertEqual({step for entry, step, n in asks}, {("down", (0, None))})
        self.assertEqual([entry for entry, step, n in asks], sorted(entry for entry, step, n in asks))
        self.assertEqual({entry for entry, step, n in asks}, set(range(len(entries))))

    def test_of_steps_that_were_none(self):
        # By `tick` both are done together then.
        house = House(SYSTEM_DOWN, rungs=())
        house.put("stays", STAYS)
        house.other_row(0, 0, with_part(DOWN, 1, "tick"))
        self.assertEqual({step for entry, step, n in house.asks("stays")}, {("tick", (0, 0))})
        self.assertEqual(house.way("stays"), "searched")
        house.back()
        # Where that is barred the paper stays, without leads of steps that are none any more.
        before = house.paper("stays")
        house.other_row(0, 0, with_part(with_part(DOWN, 1, "tick"), 2, (least(-1),)))
        self.assertEqual({step for entry, step, n in house.asks("stays")}, {("tick", (0, 0))})
        self.assertEqual(house.way("stays"), "stayed")
        steps = [("rest", (None, None)), ("tock", (None, 1))]
        left = [[lead for lead in some if lead[0] in steps] for some in before[2]]
        self.assertEqual(house.paper("stays"), (before[0], before[1], left, before[3]))
        self.assertNotEqual(left, before[2])
        self.is_true(house)
        # And the other way about: `tick` is done by one alone again.
        house.other_row(0, 0, DOWN)
        self.assertEqual({step for entry, step, n in house.asks("stays")}, {("tick", (None, 0)), ("down", (0, None))})

    def test_no_paper_or_nothing_turned(self):
        house = House(SYSTEM_DOWN)
        house.put("ticks", TICKS)
        house.other_row(0, 0, UP)
        self.assertEqual((house.word("ticks"), house.asks("ticks")), ("broken", []))
        house.put("stays", STAYS)
        house.begins((least(-1, x=1),))
        self.assertEqual(house.asks("stays"), [("begin",)])
        house.put("other", FALLS)
        self.assertEqual(house.asks("stays"), [])

    def test_in_order_and_each_once(self):
        # Nobody asks the ring: its place is told as None, and each of its places is gone through.
        house = House(SYSTEM_DOWN)
        house.put("stays", STAYS)
        self.assertEqual({entry[0][1] for entry in house.paper("stays")[0]}, {None})
        house.together([("row", 1, 0, ("q", "tick", (), (), "q")), ("begins", (least(-3, x=1),)), ("row", 0, 0, UP)])
        asks = house.asks("stays")
        self.assertEqual(asks[0], ("begin",))
        self.assertEqual(len(set(asks)), len(asks))
        # At p there is `down` alone; `tick` comes at q.
        first = [step for entry, step, n in asks[1:] if entry == 0 and n == 0]
        self.assertEqual(first, [("down", (0, None)), ("tick", (None, 0))])
        self.is_true(house)


class Together(Case):
    def test_one_deed(self):
        house = House(SYSTEM_DOWN)
        house.put("stays", STAYS)
        self.assertIsNone(house.together(deeds=[
            ("put", "falls", FALLS), ("row", 0, 0, UP), ("begins", ()), ("drop", "stays"), ("put", "ticks", TICKS)]))
        self.assertEqual(house.sayings(), {"falls": FALLS, "ticks": TICKS})
        self.assertEqual((house.system()[1], house.system()[2][0][2], len(house)), ((), (UP,), 2))
        self.assertEqual(house.log(), ["begin", "end"])
        self.assertEqual(house.word("falls"), "broken")
        self.is_true(house)
        house.back()
        self.assertEqual((house.sayings(), house.system(), len(house)), ({"stays": STAYS}, SYSTEM_DOWN, 1))
        self.assertEqual(house.log(), ["begin", "end"])

    def test_an_empty_list(self):
        house = House(SYSTEM_DOWN)
        house.put("stays", STAYS)
        house.together([])
        self.assertEqual((len(house), house.way("stays"), house.log()), (2, "stayed", ["begin", "end"]))
        house.back(many=2)
        self.assertEqual((len(house), house.sayings()), (0, {}))

    def test_ahead_of_all_of_them(self):
        house = House(SYSTEM_DOWN)
        house.put("stays", STAYS)
        # It goes and comes back; a row turns, and turns back.
        house.together([("drop", "stays"), ("row", 0, 0, UP), ("put", "stays", STAYS), ("row", 0, 0, DOWN)])
        self.assertEqual((house.way("stays"), house.asks("stays")), ("stayed", []))
        # By another name, or as another saying, it is new.
        house.together([("drop", "stays"), ("put", "keeps", STAYS)])
        self.assertEqual(house.way("keeps"), "searched")
        house.together([("put", "keeps", FALLS), ("put", "keeps", STAYS)])
        self.assertEqual(house.way("keeps"), "stayed")

    def test_the_first_that_is_refused(self):
        house = House(SYSTEM_DOWN)
        house.put("falls", FALLS)
        good = ("put", "ticks", TICKS)
        cases = (
            ([("drop", "none")], 0), ([good, ("drop", "none"), ("drop", "none")], 1),
            ([good, good, ("put", "Big", TICKS)], 2),
            ([good, ("put", "one", ("no",))], 1), ([good, ("row", 7, 0, UP)], 1), ([good, ("row", 0, 0, ())], 1),
            ([good, ("begins", [])], 1), ([("row", 0, 0, with_part(DOWN, 1, "less")), ("drop", "falls")], 0),
            ([("put", name, TICKS) for name in ("a", "b", "c", "d")], 3), ([("drop", "falls"), ("drop", "falls")], 1),
            ([("put", [], TICKS)], 0), ([("drop", {})], 0), ([("row", None, None, None)], 0),
        )
        log = []
        before = state(house)
        for deeds, number in cases:
            with self.assertRaises(NoDeeds) as caught:
                house.together(deeds)
            log.extend(["begin", "end"])
            self.assertEqual(caught.exception.number, number, deeds)
            self.assertEqual((state(house), house.log()), (before, log))
        # Where the saying is dropped ahead, the row may be another one.
        house.together([("drop", "falls"), ("row", 0, 0, with_part(DOWN, 1, "less"))])
        self.assertEqual(house.sayings(), {})

    def test_no_list_of_deeds(self):
        house = House(SYSTEM_DOWN)
        house.put("falls", FALLS)
        before, many = state(house), 0
        good = ("put", "ticks", TICKS)
        wrong = [(thing,) for thing in anything_but()]
        wrong += [("put", "a"), ("put", "a", TICKS, 1), ("drop",), ("drop", "falls", 1), ("row", 0, 0), ("begins",),
                  ("row", 0, 0, UP, 1), ("begins", (), ()), ("back",), ("back", 1), ("together", []), ["drop", "falls"],
                  ("less", "falls"), ("system", SYSTEM_DOWN), (["put"], "a", TICKS)]
        wrong.append(())
        lists = [[good, ("drop", "none"), one] for one in wrong] + [(good,), {"put": good}, good, "put"]
        for deeds in anything_but([]) + lists:
            with self.assertRaises(NoDeeds) as caught:
                house.together(deeds)
            many += 1
            self.assertIsNone(caught.exception.number, deeds)
            self.assertEqual(state(house), before)
        self.assertEqual(house.log(), ["begin", "end"] * many)


class Back(Case):
    def test_one_and_several(self):
        house = House(SYSTEM_DOWN)
        states = [state(house)]
        for deed, handed in (("put", ("stays", STAYS)), ("put", ("falls", FALLS)), ("other_row", (0, 0, UP)),
                             ("begins", ((above(5, x=1),),)), ("put", ("falls", TICKS)), ("drop", ("stays",)),
                             ("together", ([("begins", ()), ("row", 0, 0, DOWN)],))):
            getattr(house, deed)(*handed)
            states.append(state(house))
            self.is_true(house)
        log = house.log()
        for many in range(1, len(states)):
            twin = house.twin()
            self.assertIsNone(twin.back(many=many))
            self.assertEqual(state(twin), states[-1 - many])
        for at in range(len(states) - 2, -1, -1):
            house.back()
            self.assertEqual(state(house), states[at])
        self.assertEqual(house.log(), log)

    def test_refused(self):
        house = House(SYSTEM_DOWN)
        self.refuses(NoChange, "back", house)
        house.put("stays", STAYS)
        house.put("falls", FALLS)
        for thing in anything_but(1) + [3, 2.0]:
            self.refuses(NoChange, "back", house, many=thing)
        with self.assertRaises(TypeError):
            house.back(1)
        house.back(many=2)
        self.refuses(NoChange, "back", house, many=1)

    def test_goes_on_behind_it(self):
        house = House(SYSTEM_DOWN)
        house.put("stays", STAYS)
        house.other_row(0, 0, UP)
        house.back()
        house.put("falls", FALLS)
        self.assertEqual((house.way("stays"), house.word("falls"), len(house)), ("stayed", "holds", 2))


class Told(Case):
    def test_ladders_of_its_own(self):
        # One round is too few for a rank; by another lap, other wishes are learnt.
        for rounds, word in ((0, "going"), (1, "going"), (2, "holds")):
            house = House(SYSTEM_DOWN, rounds=rounds)
            house.put("falls", FALLS)
            self.assertEqual((house.word("falls"), house.way("falls")), (word, "searched"))
        begun = with_part(SYSTEM_DOWN, 1, (just(-2, x=1),))
        for rungs in ((), ("together",), ("unasked", "together")):
            for laps in (1, 4):
                house = House(begun, rungs=rungs, laps=laps, rounds=12)
                house.put("falls", FALLS)
                ladder = Ladder(begun, FALLS, rungs=rungs, laps=laps, rounds=12)
                self.assertEqual((house.word("falls"), house.paper("falls")), (ladder.word(), ladder.paper()))

    def test_twelve_rounds(self):
        house = House(SYSTEM_DOWN)
        house.put("falls", FALLS)
        self.assertEqual(house.paper("falls"), Ladder(SYSTEM_DOWN, FALLS, rounds=12).paper())

    def test_an_open_one_is_searched_anew(self):
        doubled = with_machine(SYSTEM_DOWN, 0, ("m", ("a",), (with_part(DOWN, 3, (("x", line(0, x=2)),)),)))
        house = House(with_part(doubled, 1, (least(-1, x=1),)))
        house.put("falls", FALLS)
        self.assertEqual((house.word("falls"), house.paper("falls"), house.run("falls")), ("open", None, None))
        house.put("ticks", TICKS)
        self.assertEqual(house.way("falls"), "stayed")
        house.begins(())
        self.assertEqual((house.way("falls"), house.asks("falls")), ("searched", []))

    def test_alike(self):
        one, other = House(SYSTEM_DOWN), House(SYSTEM_DOWN, laps=4)
        self.assertTrue(one == other)
        one.put("a", FALLS)
        self.assertFalse(one == other)
        other.put("b", TICKS)
        other.put("a", FALLS)
        self.assertFalse(one == other)
        other.drop("b")
        self.assertTrue(one == other)
        one.put("b", TICKS)
        other.put("b", TICKS)
        self.assertTrue(one == other)
        other.begins(())
        self.assertTrue(one != other)
        for thing in anything_but():
            self.assertIs(one == thing, False)

    def test_twins(self):
        house = House(SYSTEM_DOWN, laps=3)
        house.put("stays", STAYS)
        house.together([("row", 0, 0, UP)])
        twin = house.twin()
        self.assertEqual(state(twin), state(house))
        self.assertEqual((twin.log(), house.log()), ([], ["begin", "end"]))
        twin.back()
        twin.put("falls", FALLS)
        self.assertEqual((len(house), house.sayings(), house.system()[2][0][2]), (2, {"stays": STAYS}, (UP,)))
        house.back(many=2)
        self.assertEqual(twin.sayings(), {"stays": STAYS, "falls": FALLS})

    def test_all_is_new(self):
        house = House(SYSTEM_DOWN)
        house.put("stays", STAYS)
        house.put("ticks", TICKS)
        house.other_row(0, 0, UP)
        house.together([])
        before, log = state(house), house.log()
        house.sayings().clear()
        house.log().clear()
        house.paper("stays")[0].clear()
        house.paper("stays")[2][0].clear()
        house.run("ticks")[2].clear()
        house.asks("stays").append(None)
        self.assertEqual((state(house), house.log()), (before, log))
        deeds = [("put", "falls", FALLS)]
        house.together(deeds)
        deeds.clear()
        self.assertEqual(house.sayings()["falls"], FALLS)


def some_deed(chance, mirror, atoms):
    """A deed by chance, at times one that is refused."""
    kind = chance.random()
    system = mirror.now
    names = ("a", "b", "c", "d", "e")
    if kind < 0.35:
        return ("put", chance.choice(names), some_saying_over(chance, atoms, 3))
    if kind < 0.45:
        return ("drop", chance.choice(names))
    if kind < 0.8 or not system[0]:
        at = chance.randrange(len(system[2]) + (chance.random() < 0.1))
        if at == len(system[2]) or not system[2][at][2]:
            return ("row", at, 0, DOWN)
        name, places, rows = system[2][at]
        number = chance.randrange(len(rows))
        row = rows[number]
        change = chance.random()
        if change < 0.3:
            row = with_part(row, 4, chance.choice(places))
        elif change < 0.5:
            row = with_part(row, 0, chance.choice(places))
        elif change < 0.7:
            row = with_part(row, 1, chance.choice(("go", "come", "stay")))
        elif system[0]:
            box = chance.choice(system[0])
            row = with_part(row, 2, (least(chance.randint(-2, 2), **{box: chance.choice((1, -1))}),))
            if chance.random() < 0.5:
                lines = (None, line(1, **{box: 1}), line(-1, **{box: 1}), line(2))
                row = with_part(row, 3, ((box, chance.choice(lines)),))
        return ("row", at, number, row)
    return ("begins", tuple(chance.choice((least, above))(chance.randint(0, 3), **{box: chance.choice((1, -1))})
                            for box in system[0] if chance.random() < 0.6))


class Promises(Case):
    def test_rows_of_changes_by_chance(self):
        chance = chance_of(42)
        seen = {}
        for _ in range(40):
            system = chance.choice((some_small_system, some_drifting_system, some_counters))(chance)
            more = {"rungs": chance.choice(((), ("unasked", "together"), ("together",))), "laps": chance.randint(1, 3),
                    "rounds": chance.choice((2, 12))}
            house, mirror = House(system, **more), Mirror(system, **more)
            atoms = atoms_over(system) + [("wish", least(chance.randint(-1, 1), **{box: 1})) for box in system[0]]
            for _ in range(8):
                self.one_deed(chance, house, mirror, atoms, seen)
        for way in ("stayed", "replayed", "searched", "asks", "refused", "together", "back"):
            self.assertGreater(seen.get(way, 0), 10, seen)

    def one_deed(self, chance, house, mirror, atoms, seen):
        kind = chance.random()
        if kind < 0.12 and len(house):
            many = chance.randint(1, len(house))
            house.back(many=many)
            mirror.back(many)
            seen["back"] = seen.get("back", 0) + 1
        elif kind < 0.35:
            deeds = [some_deed(chance, mirror, atoms) for _ in range(chance.randint(0, 3))]
            refused = mirror.do(deeds)
            mirror.log += ["begin", "end"]
            if refused is None:
                house.together(deeds)
            else:
                with self.assertRaises(NoDeeds) as caught:
                    house.together(deeds)
                self.assertEqual(caught.exception.number, refused[0])
            seen["together"] = seen.get("together", 0) + 1
        else:
            word, *handed = some_deed(chance, mirror, atoms)
            refused = mirror.do([(word, *handed)])
            deed = getattr(house, {"row": "other_row"}.get(word, word))
            if refused is None:
                deed(*handed)
            else:
                with self.assertRaises((GlassError, NoName, NoMachine, TooMany)) as caught:
                    deed(*handed)
                self.assertEqual(type(caught.exception).__name__, refused[1])
                seen["refused"] = seen.get("refused", 0) + 1
        self.assertEqual((house.system(), house.log(), len(house)), (mirror.now, mirror.log, len(mirror.past)))
        self.assertEqual(house.sayings(), {name: one["saying"] for name, one in mirror.kept.items()})
        for name, one in mirror.kept.items():
            for asked in ASKED:
                self.assertEqual(getattr(house, asked)(name), one[asked], (asked, mirror.now))
            seen[one["way"]] = seen.get(one["way"], 0) + 1
            seen["asks"] = seen.get("asks", 0) + bool(one["asks"])
        self.is_true(house)

    def test_words_as_by_searching_anew(self):
        # Never holds by what stayed and broken by a new search, nor the other way about.
        chance = chance_of(43)
        for _ in range(30):
            system = chance.choice((some_small_system, some_drifting_system, some_counters))(chance)
            house, mirror = House(system), Mirror(system)
            atoms = atoms_over(system)
            for _ in range(5):
                deed = some_deed(chance, mirror, atoms)
                if mirror.do([deed]) is None:
                    house.together([deed])
                    for name, saying in house.sayings().items():
                        words = {house.word(name), Ladder(house.system(), saying).word()}
                        self.assertNotEqual(words, {"holds", "broken"})

    def test_a_great_system(self):
        house = House(SYSTEM)
        house.put("a", ("always", ("ever", ("deed", "see"))))
        house.put("b", ("always", ("or", ("not", ("place", "look", "on")), ("not", ("deed", "see")))))
        self.is_true(house)
        self.assertEqual(house.word("b"), "holds")
        house.begins(())
        self.assertEqual((house.way("b"), house.asks("b")), ("stayed", [("begin",)]))


if __name__ == "__main__":
    unittest.main()
