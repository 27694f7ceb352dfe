import copy
import itertools
import unittest

from glassladder.whys import is_why, pieces, sought
from tests.samples import anything_but, chance_of, line

NONE = ("none",)


def lot(n):
    return ("lot", n)


def parts(*some):
    return ("parts", some)


# 0 and 1 lead to one another, in lots 0 and 1; 1 leads to 2, and 2 to itself, in lot 2.
TIES = [(0, 1, (0,)), (1, 0, (1,)), (1, 2, (0, 1, 2)), (2, 2, (2,))]


def ring(many, lots):
    """A ring of entries, the tie from each in the lot told of it."""
    return [(at, (at + 1) % many, lots[at]) for at in range(many)]


def some_ties(chance, count, many):
    return [(chance.randrange(count), chance.randrange(count),
             tuple(n for n in range(many) if chance.random() < 0.4)) for _ in range(chance.randint(0, 2 * count))]


def leads_to(entries, ties):
    """For each entry all that it leads to by one or more ties among the entries."""
    ends = {entry: {to for start, to, lots in ties if start == entry and to in entries} for entry in entries}
    for middle, entry in itertools.product(entries, repeat=2):
        if middle in ends[entry]:
            ends[entry] = ends[entry] | ends[middle]
    return ends


def has_lap(count, begins, ties, many):
    """Whether there is a lap with all lots, come to from begins."""
    ends = leads_to(range(count), ties)
    come_to = set(begins) | {to for begin in begins for to in ends[begin]}
    for entry in come_to:
        if entry in ends[entry]:
            here = {other for other in ends[entry] if entry in ends[other]}
            lots = {n for start, to, some in ties if start in here and to in here for n in some}
            if lots >= set(range(many)):
                return True
    return False


class IsWhy(unittest.TestCase):
    def why(self, truth, entries, thing, ties=TIES, many=3):
        self.assertIs(is_why(entries, ties, many, thing), truth, (entries, thing))

    def test_none(self):
        self.why(True, [], NONE)
        self.why(True, [0], NONE)
        self.why(True, [0, 2], NONE, ties=TIES[:3])
        self.why(True, [0, 1, 2], NONE, ties=[])
        self.why(True, [0, 1, 2], NONE, ties=[(0, 3, ()), (3, 1, ())])
        self.why(False, [0, 1], NONE)
        self.why(False, [2], NONE)
        self.why(False, [0, 1, 2], NONE, ties=[(1, 2, ())])
        self.assertIs(is_why(thing=NONE, many=0, ties=[], entries=[]), True)

    def test_lot(self):
        self.why(True, [0, 1], lot(2))
        self.why(True, [2], lot(0))
        self.why(True, [2], lot(1))
        self.why(True, [0], lot(2))
        self.why(False, [0, 1], lot(0))
        self.why(False, [0, 1], lot(1))
        self.why(False, [2], lot(2))
        self.why(False, [0, 1, 2], lot(2))
        for thing in (lot(3), lot(-1), lot(True), lot(False), lot(None), lot("0"), lot(0) + (0,), ("lot",), ["lot", 2],
                      lot((2,)), lot(10 ** 9)):
            self.why(False, [2], thing, ties=[])
        self.why(False, [], lot(0), many=0)

    def test_parts(self):
        self.why(True, [0, 1, 2], parts(((0, 1), lot(2)), ((2,), lot(0))))
        self.why(False, [0, 1, 2], parts(((2,), lot(0)), ((0, 1), lot(2))))
        self.why(False, [0, 1, 2], parts(((0,), NONE), ((1,), NONE), ((2,), lot(0))))
        self.why(False, [0, 1, 2], parts(((0, 1), lot(2)), ((2,), lot(2))))
        self.why(False, [0, 1, 2], parts(((0, 1), lot(1)), ((2,), lot(0))))
        self.why(True, [0, 2], parts(((0,), NONE), ((2,), lot(1))))
        self.why(True, [0, 2], parts(((2,), lot(1)), ((0,), NONE)))
        self.why(True, [0, 1], parts(((0, 1), lot(2)),))
        self.why(True, [], parts())
        self.why(False, [0], parts())

    def test_each_entry_stands_just_once(self):
        for some in (((0, 1),), ((0, 1), (1, 2)), ((0, 1), (2,), (2,)), ((0, 1), (2, 3)), ((0,), (2,)), ((1, 0), (2,)),
                     ((0, 1, 2, 2),), ((0, 1), (True, 2)), ((0, 1), ("2",)), ((0, 1), [2]), ((0, 1), None),
                     ((0, 1), 2), ((False, 1), (2,)), ((0, 1), (2, -1)), ((0, 1), ((2,),))):
            self.why(False, [0, 1, 2], parts(*((one, NONE) for one in some)), ties=[])
        self.why(True, [0, 1, 2], parts(((0, 1), NONE), ((2,), NONE)), ties=[])
        self.why(True, [0, 1, 2], parts(((0, 2), NONE), ((1,), NONE)), ties=[])

    def test_empty_parts(self):
        for why in (NONE, lot(0), parts(), parts(((), NONE), ((), lot(2)))):
            self.why(True, [0, 1], parts(((), why), ((0, 1), lot(2)), ((), why)))
            self.why(True, [], parts(((), why)))
        for why in (None, lot(3), (), parts((0,), NONE), "none"):
            self.why(False, [0, 1], parts(((), why), ((0, 1), lot(2))))

    def test_several_deep(self):
        inner = parts(((0, 1), lot(2)), ((2,), parts(((2,), parts(((), NONE), ((2,), lot(1)))))))
        self.why(True, [0, 1, 2], inner)
        self.why(True, [0, 1, 2], parts(((0, 1, 2), inner)))
        self.why(False, [0, 1, 2], parts(((0, 1, 2), parts(((0, 1), NONE), ((2,), lot(0))))))
        deep = lot(2)
        for _ in range(12):
            deep = parts(((), NONE), ((0, 1), deep))
        self.why(True, [0, 1], deep)

    def test_parts_of_other_forms(self):
        good = ((0, 1), lot(2))
        for thing in (("parts",), ("parts", (good,), ()), ["parts", (good,)], ("parts", [good]), ("parts", good),
                      ("parts", (list(good),)), ("parts", (good + (None,),)), ("parts", (good[:1],)), ("part", (good,)),
                      ("parts", None), ("parts", ((good[1], good[0]),))):
            self.why(False, [0, 1], thing)

    def test_of_anything(self):
        for thing in anything_but():
            self.why(False, [0, 1], thing)
            self.why(False, [], thing)
            self.why(False, [0, 1], ("lot", thing), ties=[], many=0)
            self.why(False, [0, 1], parts(((0, 1), thing)), ties=[])
            if thing != ():
                self.why(False, [0, 1], ("parts", thing))
                self.why(False, [0, 1], parts((thing, NONE), ((0, 1), lot(2))))
            self.why(False, [0, 1], parts(thing, ((0, 1), lot(2))))

    def test_no_ranks(self):
        for thing in (("rank", (line(0),), NONE), ("rank", (line(0), line(0)), lot(2)), ("rank", (), NONE)):
            self.why(False, [0, 1], thing)
            self.why(False, [0, 1], parts(((0, 1), thing)))
        self.why(False, [], ("rank", (), NONE))
        self.why(False, [], parts(((), ("rank", (), NONE))))


class Sought(unittest.TestCase):
    def check(self, count, begins, ties, many):
        """What is told fits, and is told again alike when it was changed."""
        before = copy.deepcopy((begins, ties))
        told = sought(count, begins, ties, many)
        self.assertEqual((begins, ties), before)
        kept = copy.deepcopy(told)
        if told[0] == "lap":
            self.check_lap(begins, ties, many, told)
            told[1].append(None)
            told[2].clear()
        else:
            self.assertEqual((told[0], len(told)), ("why", 2))
            ends = leads_to(range(count), ties)
            come_to = sorted(set(begins) | {to for begin in begins for to in ends[begin]})
            self.assertIs(is_why(come_to, ties, many, told[1]), True, (ties, told))
        self.assertEqual(sought(count, begins, ties, many), kept)
        return kept

    def check_lap(self, begins, ties, many, told):
        word, stem, lap = told
        self.assertTrue(isinstance(stem, list) and isinstance(lap, list) and lap)
        row = [ties[number] for number in stem + lap]
        self.assertIn(row[0][0], begins)
        for one, other in zip(row, row[1:]):
            self.assertEqual(one[1], other[0])
        self.assertEqual(row[-1][1], ties[lap[0]][0])
        for n in range(many):
            self.assertTrue(any(n in ties[number][2] for number in lap), n)

    def test_by_hand(self):
        self.assertEqual(self.check(3, [0], TIES, 3)[0], "why")
        self.assertEqual(self.check(3, [0], TIES, 2), ("lap", [], [0, 1]))
        self.assertEqual(self.check(3, [2], TIES, 2)[0], "why")
        self.assertEqual(self.check(3, [2], TIES, 0), ("lap", [], [3]))
        self.assertEqual(self.check(3, [0], TIES + [(2, 1, ())], 3)[0], "lap")
        self.assertEqual(self.check(3, [0], TIES[2:], 0)[0], "why")
        self.assertEqual(self.check(3, [1], TIES[2:], 0), ("lap", [0], [1]))
        self.assertEqual(sought(many=0, ties=[], begins=[], count=0)[0], "why")

    def test_from_begins_alone(self):
        self.assertEqual(self.check(3, [], TIES, 0)[0], "why")
        self.assertEqual(self.check(5, [3, 4], TIES, 0)[0], "why")
        self.assertEqual(self.check(5, [3, 4], TIES + [(4, 3, ()), (3, 2, ())], 0), ("lap", [5], [3]))

    def test_no_begin_twice(self):
        self.assertEqual(self.check(3, [2, 2, 0], TIES, 2)[0], "lap")

    def test_as_few_ties_as_can_be(self):
        # The lap is the tie with the lot alone; the stem leads there.
        self.assertEqual(self.check(2, [0], [(0, 1, ()), (1, 1, (0,)), (1, 0, ())], 1), ("lap", [0], [1]))
        # For each lot in order the first tie with it, where no tie ahead has it, and between these the shortest way.
        ties = [(0, 1, (0,)), (1, 2, ()), (2, 0, (1,)), (1, 0, ()), (0, 0, (1,)), (0, 2, ()), (2, 1, ())]
        self.assertEqual(self.check(3, [0], ties, 2), ("lap", [], [0, 1, 2]))
        self.assertEqual(self.check(3, [2], ties, 2), ("lap", [], [2, 0, 1]))
        self.assertEqual(self.check(3, [0], ties[:2] + ties[3:], 2), ("lap", [], [0, 2, 3]))
        self.assertEqual(self.check(2, [1], [(1, 0, ()), (0, 1, (1, 0)), (0, 0, (0,)), (1, 1, (1,))], 2),
                         ("lap", [], [0, 1]))

    def test_a_lap_of_no_lots(self):
        self.assertEqual(self.check(3, [0], [(0, 1, ()), (1, 2, ()), (2, 1, ())], 0), ("lap", [0], [1, 2]))
        self.assertEqual(self.check(3, [0], [(0, 1, ()), (1, 2, ()), (0, 2, ())], 0)[0], "why")

    def test_rings(self):
        for many in (1, 2, 9, 40, 70):
            own = [(at,) for at in range(many)]
            self.assertEqual(self.check(many, [0], ring(many, own), many)[0], "lap")
            self.assertEqual(self.check(many, [many // 2], ring(many, own[::-1]), many)[0], "lap")
            self.assertEqual(self.check(many, [0], ring(many, own), many + 1)[0], "why")
            self.assertEqual(self.check(many, [0], ring(many, own)[:-1], 0)[0], "why")
            lacks = [one if at else () for at, one in enumerate(own)]
            self.assertEqual(self.check(many, [0], ring(many, lacks), many)[0], "why")
            # Two rings, of which neither has all lots, and the one leads to the other.
            behind = [(many + start, many + end, lots) for start, end, lots in ring(many, own[:1] * many)]
            two = ring(many, lacks) + behind
            told = self.check(2 * many, [0], two + [(0, many, tuple(range(many)))], many)[0]
            self.assertEqual(told, "lap" if many == 1 else "why")
            both = two + [(0, many, ()), (2 * many - 1, 0, ())]
            self.assertEqual(self.check(2 * many, [0], both, many)[0], "lap")

    def test_long_rows(self):
        long = [(at, at + 1, ()) for at in range(3000)]
        self.assertEqual(sought(3001, [0], long, 0)[0], "why")
        word, stem, lap = sought(3001, [0], long + [(3000, 1500, (0,))], 1)
        self.assertEqual((len(stem), len(lap)), (1500, 1501))
        self.assertEqual(len(pieces(list(range(3001)), long)), 3001)

    def test_by_chance(self):
        chance = chance_of(151)
        words = []
        for _ in range(1500):
            count, many = chance.randint(1, 7), chance.randint(0, 3)
            ties = some_ties(chance, count, many)
            begins = [entry for entry in range(count) if chance.random() < 0.4]
            word = self.check(count, begins, ties, many)[0]
            self.assertEqual(word == "lap", has_lap(count, begins, ties, many), (count, begins, ties, many))
            words.append(word)
        self.assertGreater(words.count("lap"), 300)
        self.assertGreater(words.count("why"), 300)

    def test_no_why_where_a_lap_is(self):
        chance = chance_of(152)
        for _ in range(150):
            count, many = chance.randint(1, 3), chance.randint(0, 2)
            ties = some_ties(chance, count, many)
            if has_lap(count, range(count), ties, many):
                entries = list(range(count))
                for why in self.some_whys(entries, many, 2):
                    self.assertIs(is_why(entries, ties, many, why), False, (ties, why))

    def some_whys(self, entries, many, deep):
        """Whys of the entries by their form, parts some deep."""
        told = [NONE] + [lot(n) for n in range(many)]
        if deep:
            for homes in itertools.product(range(2), repeat=len(entries)):
                some = [tuple(entry for entry, home in zip(entries, homes) if home == at) for at in range(2)]
                inner = [self.some_whys(list(one), many, deep - 1) for one in some]
                told += [parts((some[0], one), (some[1], other)) for one in inner[0] for other in inner[1]][:300]
        return told


class Pieces(unittest.TestCase):
    def test_by_hand(self):
        self.assertEqual(pieces([0, 1, 2], TIES), [[0, 1], [2]])
        self.assertEqual(pieces([0, 1, 2], TIES + [(2, 0, ())]), [[0, 1, 2]])
        self.assertCountEqual(pieces([0, 2], TIES), [[0], [2]])
        self.assertEqual(pieces([], TIES), [])
        self.assertEqual(pieces(ties=[(2, 1, ()), (1, 0, ())], entries=[0, 1, 2]), [[2], [1], [0]])
        self.assertEqual(pieces([1, 5, 9], [(9, 1, (0,)), (1, 9, ()), (5, 9, ()), (5, 7, ()), (7, 5, ())]),
                         [[5], [1, 9]])

    def test_ties_of_others_do_nothing(self):
        self.assertEqual(pieces([0, 2], [(2, 1, ()), (1, 0, ()), (0, 1, ()), (1, 2, ()), (2, 0, ())]), [[2], [0]])

    def test_by_chance(self):
        chance = chance_of(153)
        for _ in range(500):
            count = chance.randint(1, 9)
            ties = some_ties(chance, count, 1)
            entries = [entry for entry in range(count) if chance.random() < 0.8]
            before = copy.deepcopy((entries, ties))
            told = pieces(entries, ties)
            self.assertEqual((entries, ties), before)
            ends = leads_to(entries, ties)
            self.assertEqual(sorted(entry for piece in told for entry in piece), entries)
            homes = {entry: at for at, piece in enumerate(told) for entry in piece}
            for one, other in itertools.product(entries, repeat=2):
                both = one == other or (other in ends[one] and one in ends[other])
                self.assertIs(homes[one] == homes[other], both)
                if other in ends[one]:
                    self.assertLessEqual(homes[one], homes[other])
            for piece in told:
                self.assertEqual(piece, sorted(piece))
                piece.append(None)
            told.clear()
            self.assertEqual(sorted(entry for piece in pieces(entries, ties) for entry in piece), entries)


if __name__ == "__main__":
    unittest.main()
