import copy
import unittest

from glassladder.errors import GlassError, NoSaying, NotShown
from glassladder.rungs import is_rung, is_shown, led_places, led_saying, led_step
from glassladder.sayings import atoms_of, look_at_saying
from glassladder.steps import steps_from
from tests.ladders import (
    hidden_by_going, is_more_by_going, is_same_by_going, places_led, some_quotient, some_upper, step_led,
)
from tests.machines import with_machine, with_part
from tests.papers import Table, all_places, atoms_over, some_saying_over, some_small_system
from tests.samples import above, anything_but, chance_of, just, least, line

X, ONE_MORE, LESS = least(0, x=1), least(-1, x=1), line(-1, x=1)
GO = ("a", "go", (ONE_MORE,), (("x", LESS),), "b")
BACK = ("b", "back", (), (), "a")
MACHINE = ("m", ("a", "b", "c"), (GO, with_part(GO, 4, "c"), BACK, with_part(BACK, 0, "c")))
TICKS = ("n", ("d",), (("d", "tick", (), (("y", line(1, y=1)),), "d"),))
UPPER = (("x", "y"), (X, least(0, y=1)), (MACHINE, TICKS), ("back", "go"))
LOWER = (("x",), (X,), (("low", ("a", "b"), (GO, BACK)),), ("back", "go"))
MEANING = ((0, (("a", "a"), ("b", "b"), ("c", "b"))), None)
MORE = ("more", UPPER, LOWER, MEANING)
# The same without what ticks: nothing is lost.
SAME = ("same", (("x",), (X,), (MACHINE,), ("back", "go")), LOWER, MEANING[:1])
REST, TICK = ("rest", (None, None)), ("tick", (None, 0))


def lower_with(rung, at, part):
    """The rung with another part of its lower system."""
    return with_part(rung, 2, with_part(rung[2], at, part))


def upper_with(rung, at, part):
    return with_part(rung, 1, with_part(rung[1], at, part))


def lower_rows(rung, *rows):
    """The rung with other rows of its first lower machine."""
    return with_part(rung, 2, with_machine(rung[2], 0, with_part(rung[2][2][0], 2, rows)))


def upper_rows(rung, *rows):
    return with_part(rung, 1, with_machine(rung[1], 0, with_part(rung[1][2][0], 2, rows)))


class LetBy(unittest.TestCase):
    def check(self, rung, truth):
        before = copy.deepcopy(rung)
        self.assertIs(is_rung(rung), truth, rung)
        self.assertEqual(rung, before)
        if isinstance(truth, bool):
            by_going = is_more_by_going(rung) and (rung[0] == "more" or is_same_by_going(rung))
            self.assertIs(by_going, truth, rung)

    def test_both_words(self):
        self.check(MORE, True)
        self.check(SAME, True)
        self.check(with_part(SAME, 0, "more"), True)
        self.check(with_part(MORE, 0, "same"), False)
        self.assertIs(is_rung(thing=MORE), True)

    def test_to_itself(self):
        for system in (UPPER, LOWER, SAME[1]):
            meaning = tuple((n, tuple((place, place) for place in machine[1])) for n, machine in enumerate(system[2]))
            for word in ("more", "same"):
                self.check((word, system, system, meaning), True)

    def test_machines_in_another_order(self):
        lower = with_part(UPPER, 2, UPPER[2][::-1])
        meaning = ((1, tuple((place, place) for place in "abc")), (0, (("d", "d"),)))
        self.check(("same", UPPER, lower, meaning), True)
        self.assertEqual(led_places(("same", UPPER, lower, meaning), ("c", "d")), ("d", "c"))
        self.assertEqual(led_step(("same", UPPER, lower, meaning), TICK), ("tick", (0, None)))

    def test_boxes(self):
        self.check(lower_with(MORE, 0, ("x", "z")), False)
        self.check(lower_with(MORE, 0, ("x", "y")), False)
        # Where nothing sets y above, it may stay below.
        rung = upper_with(lower_with(MORE, 0, ("x", "y")), 2, (MACHINE, ("n", ("d",), ())))
        self.check(rung, True)
        self.check(with_part(rung, 0, "same"), False)
        bare = with_part(MORE, 2, with_part(with_part(LOWER, 0, ()), 1, ()))
        self.check(lower_rows(bare, ("a", "go", (), (), "b"), BACK), True)

    def test_lower_begins(self):
        for begins, more, same in (((), True, False), ((X,), True, True), ((above(1, x=1),), True, False),
                                   ((X, least(0)), True, True), ((above(0, x=1),), False, False),
                                   ((X, least(-1, x=1)), False, False), ((X, just(0)), True, True)):
            self.check(lower_with(MORE, 1, begins), more)
            self.check(lower_with(SAME, 1, begins), same)
        self.check(upper_with(SAME, 1, (just(-3, x=1),)), False)
        self.check(upper_with(with_part(SAME, 0, "more"), 1, (just(-3, x=1),)), True)
        self.check(upper_with(SAME, 1, (above(0, x=1), X)), False)
        self.check(upper_with(SAME, 1, (X, least(5, x=1))), True)

    def test_begin_places(self):
        for rung in (MORE, SAME):
            self.check(with_part(rung, 2, with_machine(LOWER, 0, with_part(LOWER[2][0], 1, ("b", "a")))), False)
        turned = ((0, (("a", "b"), ("b", "a"), ("c", "a"))),)
        self.check(with_part(SAME, 3, turned), False)

    def test_fair_deeds(self):
        for fair, more, same in (((), True, False), (("back",), True, False), (("go",), True, False),
                                 (("back", "go"), True, True)):
            self.check(lower_with(MORE, 3, fair), more)
            self.check(lower_with(SAME, 3, fair), same)
        self.check(upper_with(MORE, 3, ("go",)), False)
        self.check(upper_with(lower_with(MORE, 3, ("go",)), 3, ("go", "tick")), True)
        self.check(upper_with(SAME, 3, ("go",)), False)
        self.check(upper_with(lower_with(SAME, 3, ("go",)), 3, ("go",)), True)

    def test_lower_rows(self):
        for rung in (MORE, SAME):
            is_more = rung[0] == "more"
            self.check(lower_rows(rung, BACK, GO), True)
            self.check(lower_rows(rung, GO, GO, BACK), True)
            # Asking more of numbers, asking less, setting otherwise, reading, not setting.
            self.check(lower_rows(rung, with_part(GO, 2, (ONE_MORE, least(-2, x=1))), BACK), False)
            self.check(lower_rows(rung, with_part(GO, 2, ()), BACK), is_more)
            self.check(lower_rows(rung, with_part(GO, 2, (X,)), BACK), is_more)
            self.check(lower_rows(rung, with_part(GO, 2, (X, ONE_MORE)), BACK), True)
            self.check(lower_rows(rung, with_part(GO, 3, (("x", line(-2, x=1)),)), BACK), False)
            self.check(lower_rows(rung, with_part(GO, 3, (("x", None),)), BACK), is_more)
            self.check(lower_rows(rung, with_part(GO, 3, ()), BACK), False)
            self.check(lower_rows(rung, GO, with_part(BACK, 3, (("x", None),))), is_more)
            self.check(lower_rows(rung, GO, with_part(BACK, 3, (("x", line(0, x=1)),))), False)
            # One put to it: of a place, of another wish, of a deed that the one led to it hasn't.
            self.check(lower_rows(rung, GO, BACK, ("b", "go", (), (), "b")), is_more)
            self.check(lower_rows(rung, GO, BACK, ("a", "go", (), (("x", LESS),), "b")), is_more)
            self.check(lower_rows(rung, GO, BACK, ("a", "tick", (), (), "a")), False)
            self.check(lower_rows(rung, GO, BACK, ("a", "other", (), (), "a")), False)
            # To another place, from another place.
            self.check(lower_rows(rung, with_part(GO, 4, "a"), BACK), False)
            self.check(lower_rows(rung, GO, with_part(BACK, 0, "a")), False)

    def test_a_lower_row_left_out(self):
        for rung in (MORE, SAME):
            self.check(lower_with(lower_rows(rung, BACK), 3, ("back",)), False)
            self.check(lower_with(lower_rows(rung, GO), 3, ("go",)), False)

    def test_hidden_deeds(self):
        # All places are one, and no box is left: what isn't below is led to rest.
        meaning = ((0, (("a", "a"), ("b", "a"), ("c", "a"))), None)
        bare = ((), (), (("low", ("a",), ()),), ())
        rung = ("more", UPPER, bare, meaning)
        self.check(rung, True)
        self.assertEqual(led_step(rung, ("go", (0, None))), ("rest", (None,)))
        self.check(with_part(rung, 0, "same"), False)
        # Of go some steps are led to rest, others aren't: it is hidden, and must not be fair below.
        some = ("a", "go", (), (), "a")
        upper = with_machine(UPPER, 0, with_part(MACHINE, 2, MACHINE[2] + (("b", "go", (), (), "b"),)))
        lower = ((), (), (("low", ("a", "b"), (some, ("b", "back", (), (), "a"))),), ())
        meaning = ((0, (("a", "a"), ("b", "b"), ("c", "b"))), None)
        self.check(("more", upper, lower, meaning), False)
        lower = ((), (), (("low", ("a", "b"), (with_part(some, 4, "b"), ("b", "back", (), (), "a"))),), ())
        self.check(("more", upper, lower, meaning), True)
        self.assertEqual(led_step(("more", upper, lower, meaning), ("go", (4, None))), ("rest", (None,)))
        self.assertEqual(led_step(("more", upper, lower, meaning), ("go", (0, None))), ("go", (0,)))
        self.check(("more", upper, with_part(lower, 3, ("go",)), meaning), False)
        self.check(("more", upper, with_part(lower, 3, ("back",)), meaning), True)

    def test_what_is_led_to_rest_sets_nothing_below(self):
        meaning = ((0, (("a", "a"), ("b", "a"), ("c", "a"))), None)
        lower = (("x",), (), (("low", ("a",), ()),), ())
        self.check(("more", UPPER, lower, meaning), False)
        self.check(("more", UPPER, with_part(lower, 0, ("y",)), meaning), False)
        self.check(("more", UPPER, with_part(lower, 0, ()), meaning), True)
        self.check(("more", upper_rows(MORE, BACK)[1][:3] + (("back",),), lower, meaning), True)

    def test_steps_of_two_machines(self):
        # Both know go: a step is one row of each; below, the second one is left out, or the first.
        one = ("m", ("a", "b"), (("a", "go", (), (), "b"), ("b", "go", (), (), "a")))
        two = ("n", ("c",), (("c", "go", (X,), (), "c"), ("c", "go", (), (("x", line(0)),), "c")))
        upper = (("x",), (), (one, two), ("go",))
        low = (("x",), (), (one,), ("go",))
        meaning = ((0, (("a", "a"), ("b", "b"))), None)
        self.check(("more", upper, low, meaning), False)
        self.check(("more", upper, with_part(low, 0, ()), meaning), True)
        self.check(("same", upper, low, meaning), False)
        second = (("x",), (), (two,), ("go",))
        meaning = (None, (0, (("c", "c"),)))
        self.check(("more", upper, second, meaning), True)
        self.check(("same", upper, second, meaning), True)
        # Where the first one can't go from b, go is barred there above, and not below.
        stuck = with_machine(upper, 0, with_part(one, 2, one[2][:1]))
        self.check(("more", stuck, second, meaning), True)
        self.check(("same", stuck, second, meaning), False)

    def test_a_machine_that_knows_a_deed_no_more(self):
        # Below the machine doesn't know go, which the other one does: it must not be seen to go.
        one = ("m", ("a", "b"), (("a", "go", (), (), "b"),))
        two = ("n", ("c",), (("c", "go", (), (), "c"),))
        upper = ((), (), (one, two), ("go",))
        lower = ((), (), (("m", ("a",), ()), two), ("go",))
        self.check(("more", upper, lower, ((0, (("a", "a"), ("b", "a"))), (1, (("c", "c"),)))), True)
        self.check(("same", upper, lower, ((0, (("a", "a"), ("b", "a"))), (1, (("c", "c"),)))), False)
        lower = with_machine(lower, 0, ("m", ("a", "b"), ()))
        self.check(("more", upper, lower, ((0, (("a", "a"), ("b", "b"))), (1, (("c", "c"),)))), False)

    def test_wishes_by_what_follows(self):
        upper = upper_rows(SAME, with_part(GO, 2, (ONE_MORE, least(-3, x=1))), with_part(GO, 4, "c"), *MACHINE[2][2:])
        self.check(with_part(upper, 0, "more"), True)
        # By the other row, the lower go is met.
        self.check(upper, True)
        rows = (with_part(GO, 2, (least(-3, x=1),)), BACK, with_part(BACK, 0, "c"))
        self.check(with_part(upper_rows(SAME, *rows), 0, "more"), True)
        self.check(upper_rows(SAME, *rows), False)
        rows = (with_part(GO, 2, (least(-2, x=2),)), BACK, with_part(BACK, 0, "c"))
        self.check(upper_rows(SAME, *rows), True)


class OfAnything(unittest.TestCase):
    def no_rung(self, thing):
        self.assertIs(is_rung(thing), False, thing)

    def test_the_whole_and_its_parts(self):
        for rung in (MORE, SAME):
            for thing in anything_but():
                self.no_rung(thing)
                for at in range(4):
                    self.no_rung(with_part(rung, at, thing))
                for at in range(4):
                    if not (at == 1 and thing == ()) and not (at == 3 and thing == ()):
                        self.no_rung(lower_with(rung, at, thing))
                        if at != 1:
                            self.no_rung(upper_with(rung, at, thing))
            self.no_rung(list(rung))
            self.no_rung(rung[:3])
            self.no_rung(rung + (None,))
            for word in ("More", "less", ("more",), "sames", None):
                self.no_rung(with_part(rung, 0, word))

    def test_meanings(self):
        led = MEANING[0]
        for meaning in (MEANING[:1], MEANING + (None,), list(MEANING), (None, None), (led, led),
                        (led, (0, (("d", "a"),))),
                        ((1, led[1]), None), ((-1, led[1]), None), ((True, led[1]), None), ((False, led[1]), None),
                        ((0, led[1][:2]), None), ((0, led[1] + led[1][:1]), None), ((0, led[1][::-1]), None),
                        ((0, list(led[1])), None), ((0, (("a", "a"), ("b", "b"), ("c", "c"))), None),
                        ((0, (("a", "a"), ("b", "b"), ["c", "b"])), None),
                        ((0, (("a", "a"), ("b", "b"), ("c",))), None),
                        ((0, (("a", "a"), ("b", "b"), ("c", None))), None), ((0, dict(led[1])), None), ((0,), None),
                        (led + (None,), None), (list(led), None), ((None, led[1]), None), (None, led),
                        ((0, (("a", "b"), ("b", "b"), ("c", "b"))), None),
                        ((0, (("a", "a"), ("b", "a"), ("c", "b"))), None)):
            self.no_rung(with_part(MORE, 3, meaning))
        for thing in anything_but():
            self.no_rung(with_part(MORE, 3, (thing, None)))
            if repr(thing) != "0":
                self.no_rung(with_part(MORE, 3, ((thing, led[1]), None)))
            self.no_rung(with_part(MORE, 3, ((0, thing), None)))
            self.no_rung(with_part(MORE, 3, ((0, led[1][:2] + (thing,)), None)))
            if thing is not None:
                self.no_rung(with_part(MORE, 3, (led, thing)))

    def test_places_that_nothing_leads_to(self):
        upper = with_machine(UPPER, 0, with_part(MACHINE, 1, ("a", "b", "c", "z")))
        for pair, truth in ((("z", "a"), True), (("z", "b"), True), (("z", "z"), False), (("z", "c"), False),
                            (("z", "a", "a"), False), (("z",), False), (("y", "a"), False), (["z", "a"], False)):
            self.assertIs(is_rung(("more", upper, LOWER, ((0, MEANING[0][1] + (pair,)), None))), truth, pair)

    def test_two_upper_machines_led_to_one(self):
        upper = with_part(UPPER, 2, (MACHINE, ("n", ("a", "b", "c"), ())))
        self.no_rung(("more", upper, LOWER, (MEANING[0], MEANING[0])))
        self.assertIs(is_rung(("more", upper, LOWER, (MEANING[0], None))), True)
        lower = with_part(LOWER, 2, LOWER[2] + (("n", ("a",), ()),))
        self.no_rung(("more", upper, lower, (MEANING[0], None)))
        self.assertIs(is_rung(("more", upper, lower, (MEANING[0], (1, (("a", "a"), ("b", "a"), ("c", "a")))))), True)


class Led(unittest.TestCase):
    def test_led_places(self):
        for places, led in ((("a", "d"), ("a",)), (("b", "d"), ("b",)), (("c", "d"), ("b",))):
            self.assertEqual(led_places(MORE, places), led)
        self.assertEqual(led_places(places=("c",), rung=SAME), ("b",))

    def test_led_step(self):
        for step, led in ((REST, ("rest", (None,))), (TICK, ("rest", (None,))), (("go", (0, None)), ("go", (0,))),
                          (("go", (1, None)), ("go", (0,))), (("back", (2, None)), ("back", (1,))),
                          (("back", (3, None)), ("back", (1,)))):
            self.assertEqual(led_step(MORE, step), led)
        self.assertEqual(led_step(step=("back", (3,)), rung=SAME), ("back", (1,)))

    def led(self, rows, step=("go", (0, None)), rung=MORE):
        return led_step(lower_rows(rung, *rows), step)

    def test_the_first_with_the_very_wishes_and_lines(self):
        loose, wished, read = with_part(GO, 2, ()), with_part(GO, 2, (ONE_MORE, X)), with_part(GO, 3, (("x", None),))
        self.assertEqual(self.led((loose, GO, GO, BACK)), ("go", (1,)))
        self.assertEqual(self.led((loose, wished, BACK, GO)), ("go", (3,)))
        self.assertEqual(self.led((read, GO, BACK)), ("go", (1,)))
        # Else the first to which it may be led.
        self.assertEqual(self.led((with_part(GO, 4, "a"), loose, wished, BACK)), ("go", (1,)))
        self.assertEqual(self.led((with_part(GO, 2, (least(-2, x=1),)), wished, loose, BACK)), ("go", (1,)))
        self.assertEqual(self.led((read, loose, BACK)), ("go", (0,)))
        self.assertEqual(self.led((with_part(GO, 3, ()), read, loose, BACK)), ("go", (1,)))
        # Else rest.
        self.assertEqual(self.led((with_part(GO, 4, "a"), with_part(GO, 3, ()), BACK)), ("rest", (None,)))
        self.assertEqual(self.led((BACK,)), ("rest", (None,)))
        self.assertEqual(self.led((with_part(GO, 0, "b"), BACK)), ("rest", (None,)))

    def test_wishes_in_the_very_order(self):
        rung = upper_rows(MORE, with_part(GO, 2, (X, ONE_MORE)))
        one, other = with_part(GO, 2, (ONE_MORE, X)), with_part(GO, 2, (X, ONE_MORE))
        self.assertEqual(self.led((one, GO, other), rung=rung), ("go", (2,)))
        self.assertEqual(self.led((GO, one), rung=rung), ("go", (0,)))

    def test_reads(self):
        read = with_part(GO, 3, (("x", None),))
        rung = upper_rows(MORE, read)
        self.assertEqual(self.led((GO, read), rung=rung), ("go", (1,)))
        self.assertEqual(self.led((GO,), rung=rung), ("rest", (None,)))
        unset = upper_rows(MORE, with_part(GO, 3, ()))
        self.assertEqual(self.led((GO, read, with_part(GO, 3, ())), rung=unset), ("go", (2,)))
        self.assertEqual(self.led((GO, read), rung=unset), ("go", (1,)))

    def test_by_chance(self):
        chance = chance_of(181)
        truths = []
        for _ in range(110):
            rung = some_quotient(chance, some_upper(chance))
            before = copy.deepcopy(rung)
            is_more = is_more_by_going(rung)
            self.assertIs(is_rung(with_part(rung, 0, "more")), is_more, rung)
            is_same = is_more and is_same_by_going(rung)
            self.assertIs(is_rung(with_part(rung, 0, "same")), is_same, rung)
            truths.append((is_more, is_same))
            for places in all_places(rung[1]):
                self.assertEqual(led_places(rung, places), places_led(rung, places))
                for step in steps_from(rung[1], places):
                    self.assertEqual(led_step(rung, step), step_led(rung, step))
            self.assertEqual(rung, before)
        for both in ((True, True), (True, False), (False, False)):
            self.assertGreater(truths.count(both), 8)


class Shown(unittest.TestCase):
    A, B, C = (("place", "m", place) for place in "abc")

    def shown(self, rung, saying, led):
        for many in range(2):
            self.assertIs(is_shown(rung, saying), led is not None, saying)
            if led is None:
                with self.assertRaises(NotShown) as caught:
                    led_saying(rung, saying)
                self.assertIsInstance(caught.exception, GlassError)
            else:
                self.assertEqual(led_saying(rung, saying), led)
                self.assertIsNone(look_at_saying(rung[2], led))
                led = ("until", ("yes",), ("not", led))
            saying = ("until", ("yes",), ("not", saying))

    def test_places(self):
        self.shown(MORE, self.A, ("place", "low", "a"))
        self.shown(MORE, self.B, None)
        self.shown(MORE, self.C, None)
        self.shown(MORE, ("and", self.A, self.C), None)
        self.shown(MORE, ("place", "n", "d"), None)
        self.shown(SAME, ("or", self.A, self.A), ("or", ("place", "low", "a"), ("place", "low", "a")))

    def test_places_called_otherwise(self):
        lower = with_machine(SAME[1], 0, ("z", ("c", "a", "b"), tuple(
            (dict(zip("abc", "cab"))[row[0]],) + row[1:4] + (dict(zip("abc", "cab"))[row[4]],) for row in MACHINE[2])))
        rung = ("same", SAME[1], lower, ((0, (("a", "c"), ("b", "a"), ("c", "b"))),))
        self.assertIs(is_rung(rung), True)
        self.shown(rung, ("until", self.A, ("and", self.B, self.C)),
                   ("until", ("place", "z", "c"), ("and", ("place", "z", "a"), ("place", "z", "b"))))

    def test_deeds(self):
        self.shown(MORE, ("deed", "go"), ("deed", "go"))
        self.shown(MORE, ("deed", "tick"), None)
        self.shown(MORE, ("deed", "rest"), None)
        self.shown(SAME, ("deed", "rest"), ("deed", "rest"))
        self.shown(SAME, ("ever", ("deed", "back")), ("ever", ("deed", "back")))

    def test_a_deed_of_which_one_step_is_hidden(self):
        upper = with_machine(SAME[1], 0, with_part(MACHINE, 2, MACHINE[2] + (("b", "go", (), (), "b"),)))
        rung = lower_with(("more", upper) + SAME[2:], 3, ("back",))
        self.assertIs(is_rung(rung), True)
        self.assertEqual(hidden_by_going(rung), {"go"})
        self.shown(rung, ("deed", "go"), None)
        self.shown(rung, ("deed", "back"), ("deed", "back"))
        self.shown(rung, ("deed", "rest"), None)

    def test_wishes(self):
        for wish, is_there in ((X, True), (above(3, x=2), True), (least(4), True), (least(0, y=1), False),
                               (least(0, x=1, y=1), False)):
            self.shown(MORE, ("wish", wish), ("wish", wish) if is_there else None)

    def test_yes(self):
        self.shown(MORE, ("yes",), ("yes",))
        self.assertIs(is_shown(saying=("yes",), rung=MORE), True)
        self.assertEqual(led_saying(saying=("yes",), rung=MORE), ("yes",))

    def test_no_saying(self):
        for thing in anything_but() + [("deed", "other"), ("place", "low", "a"), ("wish", least(0, z=1))]:
            for ask in (is_shown, led_saying):
                with self.assertRaises(NoSaying):
                    ask(MORE, thing)

    def test_what_holds_below_holds_above(self):
        chance = chance_of(182)
        words = []
        for _ in range(400):
            rung = some_quotient(chance, some_small_system(chance))
            saying = some_saying_over(chance, atoms_over(rung[1]), 3)
            if not is_rung(rung) or not is_shown(rung, saying):
                continue
            below = Table(rung[2], led_saying(rung, saying)).paper() is not None
            above_it = Table(rung[1], saying).paper() is not None
            self.assertTrue(above_it or not below, (rung, saying))
            if rung[0] == "same":
                self.assertIs(below, above_it, (rung, saying))
            words.append((rung[0], below))
        for both in (("more", True), ("more", False), ("same", True), ("same", False)):
            self.assertGreater(words.count(both), 8)

    def test_all_atoms_by_chance(self):
        chance = chance_of(183)
        for _ in range(40):
            rung = some_quotient(chance, some_upper(chance))
            hidden = hidden_by_going(rung)
            for atom in atoms_over(rung[1]):
                if atom[0] == "deed":
                    truth = not hidden if atom[1] == "rest" else atom[1] not in hidden
                else:
                    part = [part for machine, part in zip(rung[1][2], rung[3]) if machine[0] == atom[1]][0]
                    led = part and dict(part[1])
                    truth = part is not None and list(led.values()).count(led[atom[2]]) == 1
                self.assertIs(is_shown(rung, atom), truth, (rung, atom))
                self.assertEqual(atoms_of(("not", atom)), [atom])


if __name__ == "__main__":
    unittest.main()
