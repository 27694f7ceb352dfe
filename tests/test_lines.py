import unittest
from fractions import Fraction

from glassladder.errors import GlassError, NoNumber
from glassladder.lines import (
    all_put, is_line, is_name, line_minus, line_of, line_plus, line_times, names_of, put, worth,
)
from glassladder.shares import NOUGHT, ONE, is_share, share
from tests.samples import anything_but, as_fraction, as_share, chance_of, line, turned, worth_of

NAMES = ["a", "ab", "b", "x", "y", "z"]
PRIMED = NAMES + ["a'", "x'", "y'", "abcdefgh'"]


def some_line(chance, names=None):
    names = names or NAMES
    some = chance.sample(names, chance.randint(0, len(names)))
    parts = {name: as_share(Fraction(chance.randint(-4, 4), chance.randint(1, 4))) for name in some}
    return line_of(as_share(chance.randint(-5, 5)), parts)


def some_numbers(chance, names):
    return {name: as_share(Fraction(chance.randint(-9, 9), chance.randint(1, 5))) for name in names}


class Names(unittest.TestCase):
    def test_names(self):
        for name in ("a", "z", "x", "rest", "abcdefgh", "zzzzzzzz", "machine"):
            self.assertIs(is_name(name), True, name)

    def test_no_names(self):
        others = ["", "A", "aB", "a1", "a b", "a_", "a'", "abcdefghi", "\u00e9", "\u00df", "a\n", " a", "-", ("a",),
                  ["a"], b"a", 1, None, True, {"a": 1}]
        for thing in others + anything_but("a", "x", "rest", "least", "yes"):
            self.assertIs(is_name(thing), False, thing)


class IsLine(unittest.TestCase):
    def test_lines(self):
        for one in (((0, 1), ()), ((-3, 2), (("x", (1, 1)),)),
                    ((0, 1), (("a", (1, 2)), ("ab", (1, 1)), ("b", (-1, 1))))):
            self.assertIs(is_line(one), True, one)

    def test_no_lines(self):
        part = ("x", (1, 1))
        others = [
            ((0, 1),), ((0, 1), (), ()), [(0, 1), ()], ((0, 1), []), ((0, 1), {}), ((0, 2), ()), (0, ()), (None, ()),
            ((0, 1), None), ((0, 1), part), ((0, 1), (part, part)), ((0, 1), (("y", (1, 1)), part)),
            ((0, 1), (("x", (0, 1)),)), ((0, 1), (("x", (2, 2)),)), ((0, 1), (("x'", (1, 1)),)),
            ((0, 1), (["x", (1, 1)],)), ((0, 1), (("x", [1, 1]),)), ((0, 1), (("x", (1, 1), 1),)), ((0, 1), (("x",),)),
            ((0, 1), ((1, (1, 1)),)), ((0, 1), (([], (1, 1)),)), ((True, 1), ()), ((0, 1), (("x", (1, True)),)),
            ((0, 1), (("X", (1, 1)),)), ((0, 1), ("x",)), ((0, 1), "x"),
        ]
        for thing in others + anything_but():
            self.assertIs(is_line(thing), False, thing)


class Made(unittest.TestCase):
    def test_of_a_dict(self):
        parts = {"y": (1, 2), "x": (0, 1), "a": (-3, 1)}
        before = list(parts.items())
        self.assertEqual(line_of((5, 1), parts), ((5, 1), (("a", (-3, 1)), ("y", (1, 2)))))
        self.assertEqual(list(parts.items()), before)

    def test_of_a_tuple_of_tuples(self):
        self.assertEqual(line_of((5, 1), (("y", (1, 2)), ("x", (0, 1)), ("a", (-3, 1)))),
                         ((5, 1), (("a", (-3, 1)), ("y", (1, 2)))))

    def test_left_out(self):
        self.assertEqual(line_of(), (NOUGHT, ()))
        self.assertEqual(line_of((3, 2)), ((3, 2), ()))
        self.assertEqual(line_of(parts={"x": ONE}), (NOUGHT, (("x", ONE),)))
        self.assertEqual(line_of(parts=(("x", ONE),), plain=(2, 1)), ((2, 1), (("x", ONE),)))
        self.assertEqual(line_of(NOUGHT, {}), (NOUGHT, ()))

    def test_names_with_a_stroke(self):
        self.assertEqual(line_of(ONE, {"x": ONE, "x'": ONE, "a": ONE}),
                         (ONE, (("a", ONE), ("x", ONE), ("x'", ONE))))

    def test_order_of_keys_tells_nothing(self):
        chance = chance_of(3)
        for _ in range(50):
            names = list(PRIMED)
            chance.shuffle(names)
            self.assertEqual([name for name, by in line_of(ONE, {name: ONE for name in names})[1]], sorted(PRIMED))


class Reckoned(unittest.TestCase):
    def test_by_worths(self):
        chance = chance_of(2)
        for _ in range(600):
            one, other = some_line(chance, PRIMED), some_line(chance, PRIMED)
            by = as_share(Fraction(chance.randint(-3, 3), chance.randint(1, 3)))
            numbers = some_numbers(chance, PRIMED)
            former, latter = worth_of(one, numbers), worth_of(other, numbers)
            self.check(line_plus(one, other), numbers, former + latter)
            self.check(line_minus(one, other), numbers, former - latter)
            self.check(line_times(one, by), numbers, former * as_fraction(by))
            name = chance.choice(PRIMED)
            self.check(put(one, name, other), numbers, worth_of(one, {**numbers, name: as_share(latter)}))
            others = {key: some_line(chance, PRIMED) for key in chance.sample(PRIMED, 3)}
            put_by = {key: as_share(worth_of(others[key], numbers)) for key in others}
            self.check(all_put(one, others), numbers, worth_of(one, {**numbers, **put_by}))

    def check(self, come_to, numbers, worth):
        self.assertEqual(worth_of(come_to, numbers), worth)
        plain, parts = come_to
        names = [name for name, by in parts]
        self.assertTrue(is_share(plain) and all(is_share(by) and by != NOUGHT for name, by in parts), come_to)
        self.assertEqual(names, sorted(set(names)))
        self.assertIsInstance(parts, tuple)

    def test_names_come_to_nought(self):
        one = line(1, x=2, y=1)
        self.assertEqual(line_plus(one, line(0, x=-2)), line(1, y=1))
        self.assertEqual(line_minus(one, one), (NOUGHT, ()))
        self.assertEqual(line_plus(one, turned(one)), (NOUGHT, ()))
        self.assertEqual(line_times(one, NOUGHT), (NOUGHT, ()))
        self.assertEqual(put(line(0, x=1, y=1), "x", line(3, y=-1)), line(3))

    def test_put(self):
        self.assertEqual(put(line(1, x=2), "x", line(3, y=4)), line(7, y=8))
        self.assertEqual(put(line(1, x=2), "y", line(3, x=4)), line(1, x=2))
        self.assertEqual(put(line(1, x=2), "x", line(3, x=1)), line(7, x=2))
        self.assertEqual(put(name="x", other=line(5), line=line(1, x=2)), line(11))

    def test_all_put_at_once(self):
        others = {"x": line(0, y=1), "y": line(0, x=1)}
        before = dict(others)
        self.assertEqual(all_put(line(0, x=1, y=2), others), line(0, x=2, y=1))
        self.assertEqual(all_put(line(0, x=1, y=2), {"x": line(1, x=1, y=1), "y": line(0, y=3)}), line(1, x=1, y=7))
        self.assertEqual(all_put(line(4, x=1), {}), line(4, x=1))
        self.assertEqual(all_put(others={"x": line(2)}, line=line(4, x=1)), line(6))
        self.assertEqual(others, before)

    def test_names_with_a_stroke(self):
        primed = line_of(NOUGHT, {"x'": ONE})
        self.assertEqual(put(line(1, x=2), "x", primed), line_of(ONE, {"x'": share(2)}))
        self.assertEqual(all_put(line_of(ONE, {"x": ONE, "x'": ONE}), {"x": primed}), line_of(ONE, {"x'": share(2)}))
        self.assertEqual(put(primed, "x'", line(0, x=1)), line(0, x=1))
        self.assertEqual(line_minus(line_plus(line(0, x=1), primed), line(0, x=1)), primed)
        self.assertEqual(line_times(primed, share(-2)), line_of(NOUGHT, {"x'": share(-2)}))

    def test_lines_come_to_are_lines(self):
        chance = chance_of(4)
        for _ in range(200):
            one, other = some_line(chance), some_line(chance)
            for come_to in (line_plus(one, other), line_minus(one, other), line_times(one, (2, 3)),
                            put(one, "x", other)):
                self.assertIs(is_line(come_to), True)


class Worth(unittest.TestCase):
    def test_worth(self):
        self.assertEqual(worth(line(5), {}), (5, 1))
        self.assertEqual(worth(line(5, x=Fraction(1, 2), y=-1), {"x": (3, 1), "y": (1, 2), "z": (7, 1)}), (6, 1))
        chance = chance_of(5)
        for _ in range(200):
            one, numbers = some_line(chance), some_numbers(chance, NAMES)
            before = dict(numbers)
            come_to = worth(one, numbers)
            self.assertTrue(is_share(come_to))
            self.assertEqual(as_fraction(come_to), worth_of(one, numbers))
            self.assertEqual(numbers, before)

    def test_a_number_lacks(self):
        one = line(0, b=1, x=1, y=1)
        for numbers, lacks in (({}, "b"), ({"b": ONE}, "x"), ({"y": ONE, "b": ONE}, "x"), ({"x": ONE}, "b"),
                               ({"x": ONE, "b": ONE, "z": ONE}, "y")):
            with self.assertRaises(NoNumber) as caught:
                worth(one, numbers)
            self.assertEqual(caught.exception.name, lacks)
            self.assertIsInstance(caught.exception, KeyError)
            self.assertNotIsInstance(caught.exception, GlassError)

    def test_names_of(self):
        one = line(3, z=1, a=2, ab=1)
        told = names_of(one)
        self.assertEqual(told, ["a", "ab", "z"])
        told.append("q")
        self.assertEqual(names_of(one), ["a", "ab", "z"])
        self.assertEqual(names_of(line(3)), [])


if __name__ == "__main__":
    unittest.main()
