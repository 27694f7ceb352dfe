import unittest
from fractions import Fraction

from glassladder.errors import NoNumber
from glassladder.granting import contraries, granted, is_wish, put_all
from glassladder.lines import line_of
from glassladder.shares import ONE, share
from tests.samples import above, anything_but, as_share, chance_of, is_granted, just, least, line, some_wishes

NEAR = Fraction(1, 10 ** 40)


class IsWish(unittest.TestCase):
    def test_wishes(self):
        for one in (least(0, x=1), above(1), just(-1, a=1, b=2)):
            self.assertIs(is_wish(one), True)

    def test_no_wishes(self):
        others = [("most", line(0)), ("least",), ("least", line(0), line(0)), ["least", line(0)],
                  ("least", [(0, 1), ()]), ("Least", line(0)), (None, line(0)), ([], line(0)), ("least", None),
                  (("least",), line(0)), line(0),
                  ("least", line_of(ONE, {"x'": ONE})), ("least", ((0, 2), ())), ("", line(0)), (True, line(0))]
        for thing in others + anything_but():
            self.assertIs(is_wish(thing), False, thing)


class Granted(unittest.TestCase):
    def test_at_and_near_and_far(self):
        one = line(-3, x=1)
        for number, worths in ((3, (True, False, True)), (3 + NEAR, (True, True, False)),
                               (3 - NEAR, (False, False, False)), (10 ** 50, (True, True, False)),
                               (-10 ** 50, (False, False, False))):
            numbers = {"x": as_share(number)}
            self.assertEqual(tuple(granted((word, one), numbers) for word in ("least", "above", "just")), worths)

    def test_is_a_truth(self):
        for wish in (least(0), above(0), just(0), above(1), least(-1)):
            self.assertIn(repr(granted(wish, {})), ("True", "False"))
        self.assertIs(granted(numbers={"x": ONE}, wish=just(-1, x=1)), True)

    def test_a_number_lacks(self):
        for word in ("least", "above", "just"):
            with self.assertRaises(NoNumber) as caught:
                granted((word, line(0, x=1, b=1, y=1)), {"b": ONE, "y": ONE})
            self.assertEqual(caught.exception.name, "x")

    def test_by_fractions(self):
        chance = chance_of(11)
        for wish in some_wishes(chance, 300, ["x", "y", "z"]):
            numbers = {name: share(chance.randint(-3, 3), chance.randint(1, 2)) for name in ("x", "y", "z")}
            before = dict(numbers)
            self.assertIs(granted(wish, numbers), is_granted(wish, numbers))
            self.assertEqual(numbers, before)


class Contraries(unittest.TestCase):
    def test_how_many(self):
        self.assertEqual([len(contraries(wish)) for wish in (least(1, x=1), above(1, x=1), just(1, x=1))], [1, 1, 2])
        self.assertEqual(contraries(least(1, x=1)), [above(-1, x=-1)])
        self.assertEqual(contraries(above(1, x=1)), [least(-1, x=-1)])
        self.assertCountEqual(contraries(just(1, x=1)), [above(1, x=1), above(-1, x=-1)])

    def test_just_one_is_granted(self):
        chance = chance_of(12)
        for wish in some_wishes(chance, 200, ["x", "y"]) + [least(0), above(0), just(0), just(1)]:
            self.assertTrue(all(is_wish(other) for other in contraries(wish)))
            for number in range(-3, 4):
                numbers = {"x": share(number), "y": share(chance.randint(-2, 2))}
                truths = [is_granted(one, numbers) for one in [wish] + contraries(wish)]
                self.assertEqual(truths.count(True), 1)

    def test_a_new_list_each_time(self):
        told = contraries(just(1, x=1))
        told.clear()
        self.assertEqual(len(contraries(just(1, x=1))), 2)


class PutAll(unittest.TestCase):
    def test_all_at_once(self):
        sets = {"x": line(1, y=1), "y": line(0, x=2)}
        before = dict(sets)
        for word in ("least", "above", "just"):
            self.assertEqual(put_all((word, line(5, x=1, y=1, z=1)), sets), (word, line(6, x=2, y=1, z=1)))
        self.assertEqual(sets, before)

    def test_nothing_put(self):
        self.assertEqual(put_all(least(5, x=1), {}), least(5, x=1))
        self.assertEqual(put_all(sets={"y": line(3)}, wish=least(5, x=1)), least(5, x=1))

    def test_names_with_a_stroke(self):
        primed = line_of(parts={"x'": ONE})
        self.assertEqual(put_all(above(1, x=2), {"x": primed}), ("above", line_of(ONE, {"x'": share(2)})))


if __name__ == "__main__":
    unittest.main()
