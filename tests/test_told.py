import unittest
from fractions import Fraction

from glassladder import solving
from glassladder.errors import GlassError, NoWishes
from glassladder.granting import bars, can_be, contraries, follows, told
from glassladder.lines import line_of
from glassladder.shares import NOUGHT, ONE, is_share, share
from tests.samples import (
    above, anything_but, as_fraction, as_share, chance_of, is_barred_by, is_granted, just, least, some_wishes,
)

EDGE = [least(-1, x=1), least(1, x=-1)]
MANY = [least(-1, **{"n" + chr(97 + at // 26) + chr(97 + at % 26): 1}) for at in range(400)]


def scaled(shares, by):
    return [as_share(as_fraction(one) * by) for one in shares]


class TellsRightly(unittest.TestCase):
    def check(self, wishes):
        before = list(wishes)
        come_to = told(wishes)
        self.assertEqual(wishes, before)
        self.assertIsInstance(come_to, tuple)
        self.assertEqual(len(come_to), 2)
        word, what = come_to
        if word == "numbers":
            names = {name for wish in wishes for name, by in wish[1][1]}
            self.assertIsInstance(what, dict)
            self.assertEqual(set(what), names)
            self.assertTrue(all(is_share(number) for number in what.values()))
            self.assertTrue(all(is_granted(wish, what) for wish in wishes), wishes)
        else:
            self.assertEqual(word, "barred")
            self.assertTrue(all(is_share(by) for by in what))
            self.assertTrue(is_barred_by(wishes, what), wishes)
            self.assertIs(bars(wishes, what), True)
        self.assertIs(can_be(wishes), word == "numbers")
        return word


class Told(TellsRightly):
    def test_small(self):
        for wishes, word in (
            ([], "numbers"),
            ([least(0)], "numbers"), ([above(0)], "barred"), ([just(0)], "numbers"),
            ([least(-1)], "barred"), ([above(1)], "numbers"), ([just(1)], "barred"), ([just(-1)], "barred"),
            ([least(Fraction(-1, 10 ** 60))], "barred"),
            ([least(0, x=1)], "numbers"), ([above(0, x=-1)], "numbers"), ([just(Fraction(1, 3), x=7)], "numbers"),
            (EDGE, "numbers"), (EDGE + [just(-1, x=1)], "numbers"), (EDGE + [above(-1, x=1)], "barred"),
            (EDGE + [above(1, x=-1)], "barred"), (EDGE + [least(-1 - Fraction(1, 10 ** 30), x=1)], "barred"),
            ([above(0, x=1), above(0, x=-1)], "barred"), ([least(0, x=1), above(0, x=-1)], "barred"),
            ([above(0, x=1), above(1, x=-10 ** 50)], "numbers"),
            ([least(-1, x=1)] * 2, "numbers"), ([above(-1, x=1), least(0, x=-1)] * 2, "barred"),
            ([just(-1, x=1), just(-2, x=1)], "barred"), ([just(-1, x=1), just(-2, x=2)], "numbers"),
            ([just(0, x=1, y=1), just(-2, x=1, y=-1), above(0, y=1)], "barred"),
            ([just(0, x=1, y=1), just(-2, x=1, y=-1), above(0, x=1)], "numbers"),
            ([just(-1, x=1, y=-1), just(-1, y=1, z=-1), just(-1, z=1, x=-1)], "barred"),
            ([above(0, x=1, y=-1), above(0, y=1, z=-1), least(0, z=1, x=-1)], "barred"),
            ([least(0, x=1, y=-1), least(0, y=1, z=-1), least(0, z=1, x=-1)], "numbers"),
            ([above(0)] + MANY[:3], "barred"), (MANY[:3] + [least(-1)], "barred"),
        ):
            self.assertEqual(self.check(wishes), word, wishes)

    def test_empty(self):
        self.assertEqual(told([]), ("numbers", {}))

    def test_just_the_names_in_them(self):
        self.assertEqual(told([least(3)]), ("numbers", {}))
        self.assertEqual(told([just(-3, x=1), just(0, x=1, y=2)]), ("numbers", {"x": (3, 1), "y": (-3, 2)}))

    def test_a_just_with_a_share_below_nought(self):
        wishes = [just(1, x=1), just(2, x=1)]
        word, shares = told(wishes)
        self.assertEqual(word, "barred")
        self.assertIn(True, [as_fraction(by) < 0 for by in shares])

    def test_above_at_nought(self):
        word, shares = told([least(0, x=1), above(0, x=-1)])
        self.assertEqual(word, "barred")
        self.assertGreater(as_fraction(shares[1]), 0)

    def test_by_chance(self):
        chance = chance_of(21)
        words = []
        for _ in range(1500):
            names = ["x", "y", "z", "ab"][:chance.randint(1, 4)]
            near = chance.choice((1, 0.9, 0.6))
            words.append((self.check(some_wishes(chance, chance.randint(1, 12), names, most=4, near=near)), near))
        self.assertNotIn(("barred", 1), words)
        self.assertGreater(words.count(("numbers", 0.9)), 50)
        self.assertGreater(words.count(("barred", 0.6)), 50)

    def test_rows_chosen_by_numbers_alone(self):
        quick = solving.QUICK
        solving.QUICK = 0
        try:
            # Here the scale itself comes to be the row that can't be.
            self.assertEqual(self.check([above(Fraction(-53, 10), a=-1, b=2), above(Fraction(9, 2), a=-2, b=-1),
                                         just(-7, a=2, b=2), above(0, a=2, b=-1)]), "barred")
            chance = chance_of(22)
            for _ in range(200):
                near = chance.choice((1, 0.9))
                self.check(some_wishes(chance, chance.randint(1, 12), ["x", "y", "z"], most=4, near=near))
        finally:
            solving.QUICK = quick

    def test_some_tens_with_many_names(self):
        chance = chance_of(23)
        names = [first + second for first in "abcdef" for second in "ghijk"]
        self.assertEqual(self.check(some_wishes(chance, 60, names)), "numbers")
        self.assertEqual(self.check(some_wishes(chance, 90, names[:20], near=0.8)), "barred")

    def test_great_numbers(self):
        chance = chance_of(24)
        for near in (1, 1, 0.8, 0.8):
            self.check(some_wishes(chance, 12, ["x", "y", "z"], most=10 ** 99, near=near))

    def test_four_hundred(self):
        self.assertEqual(self.check(MANY), "numbers")
        self.assertEqual(self.check(MANY[:399] + [above(1, naa=-1)]), "barred")
        chance = chance_of(25)
        self.assertEqual(self.check(some_wishes(chance, 400, ["x", "y", "z", "ab"])), "numbers")
        self.assertEqual(self.check(some_wishes(chance, 400, ["x", "y", "z", "ab"], near=0.97)), "barred")
        names = sorted(name for wish in MANY for name, by in wish[1][1])
        chain = [least(-1, **{high: 1, low: -1}) for low, high in zip(names, names[1:])]
        self.assertEqual(self.check(chain), "numbers")
        self.assertEqual(self.check(chain + [least(398, **{names[0]: 1, names[-1]: -1})]), "barred")
        self.assertEqual(self.check(chain + [least(399, **{names[0]: 1, names[-1]: -1})]), "numbers")

    def test_told_alike_and_anew(self):
        for wishes in (EDGE, EDGE + [above(-1, x=1)], [least(0, x=1), least(0, y=1)]):
            first = told(wishes)
            kept = (first[0], dict(first[1]) if first[0] == "numbers" else list(first[1]))
            first[1].clear()
            self.assertEqual(told(wishes), kept)
            self.assertEqual(told(list(wishes)), kept)
        self.assertEqual(told(wishes=EDGE)[0], "numbers")


class Refused(unittest.TestCase):
    def refused(self, thing):
        numbers = []
        for deed in (lambda: told(thing), lambda: bars(thing, []), lambda: bars(thing, None)):
            with self.assertRaises(NoWishes) as caught:
                deed()
            self.assertIsInstance(caught.exception, GlassError)
            numbers.append(caught.exception.number)
        self.assertEqual(numbers[1:], numbers[:2])
        return numbers[0]

    def test_no_list(self):
        for thing in anything_but([], [0], [1, 1], [[]]) + [tuple(EDGE), EDGE[0], {0: EDGE[0]}]:
            self.assertIs(self.refused(thing), None, thing)

    def test_too_many(self):
        self.assertIs(self.refused(MANY + [least(0)]), None)
        self.assertIs(self.refused([None] * 401), None)

    def test_the_first_that_is_no_wish(self):
        for thing in anything_but():
            self.assertEqual(repr(self.refused([thing])), "0")
            self.assertEqual(repr(self.refused(EDGE + [thing, None])), "2")
        self.assertEqual(self.refused(MANY[:399] + [None]), 399)
        self.assertEqual(self.refused([EDGE]), 0)
        self.assertEqual(self.refused([least(0), ("least", line_of(ONE, {"x'": ONE}))]), 1)


class Bars(unittest.TestCase):
    SOME = ([least(-1, x=1), above(1, x=-1)], [above(0)], [just(1)], [just(1, x=1), just(2, x=1), least(0, y=1)],
            [least(-3, x=2), least(1, x=-3)])

    def test_told_ones_and_times(self):
        for wishes in self.SOME:
            word, shares = told(wishes)
            self.assertEqual(word, "barred")
            for by in (1, Fraction(1, 7), 3, 10 ** 60):
                self.assertIs(bars(wishes, scaled(shares, by)), True)
            self.assertIs(bars(wishes, scaled(shares, 0)), False)
            self.assertIs(bars(wishes, scaled(shares, -1)), False)
            self.assertIs(bars(wishes, shares + [NOUGHT]), False)
            self.assertIs(bars(wishes, shares[:-1]), False)
            self.assertIs(bars(wishes, tuple(shares)), False)

    def test_one_turned(self):
        for wishes in self.SOME:
            shares = told(wishes)[1]
            for at, by in enumerate(shares):
                if by != NOUGHT:
                    other = shares[:at] + scaled([by], -1) + shares[at + 1:]
                    self.assertIs(bars(wishes, other), False, (wishes, other))

    def test_as_told_in_5(self):
        wishes = [least(0, x=1), above(0, x=-1), just(0, y=1)]
        self.assertIs(bars(wishes, [ONE, ONE, NOUGHT]), True)
        self.assertIs(bars(wishes, [ONE, ONE, ONE]), False)
        self.assertIs(bars(wishes, [ONE, NOUGHT, NOUGHT]), False)
        self.assertIs(bars(wishes, [NOUGHT, NOUGHT, NOUGHT]), False)
        self.assertIs(bars([least(0)], [ONE]), False)
        self.assertIs(bars([least(-1)], [ONE]), True)
        self.assertIs(bars([least(1)], [share(-1)]), False)
        self.assertIs(bars([just(1)], [share(-1)]), True)
        self.assertIs(bars([just(1)], [ONE]), False)
        self.assertIs(bars([above(0)], [NOUGHT]), False)
        self.assertIs(bars([above(0), above(1)], [ONE, NOUGHT]), True)
        self.assertIs(bars([above(0), above(1)], [ONE, ONE]), False)
        self.assertIs(bars([], []), False)

    def test_by_chance(self):
        chance = chance_of(31)
        found = 0
        for _ in range(2000):
            wishes = some_wishes(chance, 2, ["x"], most=2, near=0)
            shares = [share(chance.randint(-2, 2)) for _ in wishes]
            self.assertIs(bars(wishes, shares), is_barred_by(wishes, shares))
            found += is_barred_by(wishes, shares)
        self.assertGreater(found, 50)

    def test_of_anything(self):
        wishes = [above(0)]
        for thing in anything_but():
            self.assertIs(bars(wishes, thing), False, thing)
            self.assertIs(bars(wishes, [thing]), False, thing)
            self.assertIs(bars([], thing), False, thing)
        self.assertIs(bars(wishes, [(2, 2)]), False)
        self.assertIs(bars(wishes, [[1, 1]]), False)
        self.assertIs(bars(wishes, [(True, 1)]), False)
        self.assertIs(bars(thing=[ONE], wishes=wishes), True)

    def test_what_is_handed_in_stays(self):
        wishes, shares = list(self.SOME[0]), [ONE, ONE]
        bars(wishes, shares)
        self.assertEqual((wishes, shares), (list(self.SOME[0]), [ONE, ONE]))


class Follows(unittest.TestCase):
    def test_can_be(self):
        self.assertIs(can_be([]), True)
        self.assertIs(can_be(EDGE), True)
        self.assertIs(can_be(wishes=EDGE + [above(-1, x=1)]), False)

    def test_each_of_a_list_and_weaker_ones(self):
        chance = chance_of(41)
        for _ in range(100):
            wishes = some_wishes(chance, chance.randint(1, 6), ["x", "y", "z"])
            before = list(wishes)
            for wish in wishes:
                self.assertIs(follows(wishes, wish), True)
                self.assertIs(follows(wishes, ("least", wish[1])), True)
            by = [Fraction(chance.randint(0, 3), 2) for _ in wishes]
            plain = sum((as_fraction(wish[1][0]) * one for wish, one in zip(wishes, by)), Fraction(0))
            parts = {}
            for wish, one in zip(wishes, by):
                for name, part in wish[1][1]:
                    parts[name] = parts.get(name, 0) + as_fraction(part) * one
            self.assertIs(follows(wishes, least(plain, **parts)), True)
            self.assertIs(follows(wishes, above(plain + 1, **parts)), True)
            self.assertEqual(wishes, before)

    def test_from_what_is_barred_all(self):
        for wish in (least(-1), above(0), just(5, x=1), just(1)):
            self.assertIs(follows([above(0, x=1), above(0, x=-1)], wish), True)

    def test_from_nothing(self):
        self.assertIs(follows([], least(0)), True)
        self.assertIs(follows([], above(0)), False)
        self.assertIs(follows([], just(0)), True)
        self.assertIs(follows([], least(0, x=1)), False)
        self.assertIs(follows([], just(0, x=1)), False)

    def test_just(self):
        self.assertIs(follows(EDGE, just(-1, x=1)), True)
        self.assertIs(follows(EDGE, just(-2, x=2)), True)
        self.assertIs(follows(EDGE[:1], just(-1, x=1)), False)
        self.assertIs(follows(EDGE[1:], just(-1, x=1)), False)
        self.assertIs(follows([just(-1, x=1, y=1), just(0, y=1)], just(-1, x=1)), True)

    def test_what_does_not_follow(self):
        self.assertIs(follows([least(-1, x=1)], above(-1, x=1)), False)
        self.assertIs(follows([above(-1, x=1)], least(-1 - Fraction(1, 10 ** 30), x=1)), False)
        self.assertIs(follows(wish=least(0, y=1), wishes=[least(0, x=1)]), False)

    def test_by_told(self):
        chance = chance_of(42)
        for _ in range(300):
            wishes = some_wishes(chance, chance.randint(0, 4), ["x", "y"], most=3)
            wish = some_wishes(chance, 1, ["x", "y"], most=3)[0]
            others = [told(wishes + [contrary])[0] for contrary in contraries(wish)]
            self.assertIs(follows(wishes, wish), "numbers" not in others)

    def test_more_than_four_hundred(self):
        self.assertIs(can_be(MANY + [least(0, naa=1)]), True)
        self.assertIs(follows(MANY, least(0, naa=1)), True)

    def test_names_with_a_stroke(self):
        primed = line_of(NOUGHT, {"x": share(-1), "x'": ONE})
        wishes = [("least", primed), least(-2, x=1)]
        self.assertIs(can_be(wishes), True)
        self.assertIs(follows(wishes, ("least", line_of(share(-2), {"x'": ONE}))), True)
        self.assertIs(follows(wishes, ("above", line_of(share(-2), {"x'": ONE}))), False)
        self.assertIs(can_be(wishes + [("above", line_of(share(2), {"x'": share(-1)}))]), False)
        self.assertIs(can_be([("just", line_of(ONE, {"abcdefgh'": ONE})), least(0, abcdefgh=1)]), True)


if __name__ == "__main__":
    unittest.main()
