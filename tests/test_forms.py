import itertools
import unittest

from glassladder.forms import contrary_form, normal_form, untils_in, ways
from glassladder.sayings import atoms_of
from tests.samples import chance_of
from tests.test_rounds import A, B, C, YES, some_saying

NO = ("no",)
IS = [("is", n) for n in range(6)]
ISNT = [("isnt", n) for n in range(6)]


def until(one, other):
    return ("until", one, other)


def release(one, other):
    return ("release", one, other)


def form_at(form, letters, again, at):
    """Whether a form holds at a moment of a row of letters, found here by going on moment by moment."""
    word = form[0]
    if word in ("yes", "no"):
        return word == "yes"
    if word in ("is", "isnt"):
        return letters[at][form[1]] == (word == "is")
    if word in ("and", "or"):
        halves = [form_at(half, letters, again, at) for half in form[1:]]
        return all(halves) if word == "and" else any(halves)
    for _ in range(2 * len(letters) + 1):
        first, second = (form_at(half, letters, again, at) for half in form[1:])
        if word == "until" and (second or not first):
            return second
        if word == "release" and (first or not second):
            return second
        at = at + 1 if at + 1 < len(letters) else again
    return word == "release"


def opened(form):
    """What a form comes to: tuples (asks, forms now, forms later, untils put off)."""
    word = form[0]
    if word in ("is", "isnt"):
        return [({(form[1], word == "is")}, [], [], [])]
    if word == "and":
        return [(set(), [form[1], form[2]], [], [])]
    if word == "or":
        return [(set(), [form[1]], [], []), (set(), [form[2]], [], [])]
    if word == "until":
        return [(set(), [form[2]], [], []), (set(), [form[1]], [form], [form])]
    if word == "release":
        return [(set(), [form[1], form[2]], [], []), (set(), [form[2]], [form], [])]
    return [] if word == "no" else [(set(), [], [], [])]


def ways_by_going(lot, untils):
    """The ways of a lot, found here by opening one form after the other, whichever is next."""
    told = set()

    def go(left, done, asks, later, put):
        left = [form for form in left if form not in done]
        if any((n, not truth) in asks for n, truth in asks):
            return
        if not left:
            told.add((tuple(sorted(asks)), tuple(sorted(later)), tuple(sorted({untils.index(one) for one in put}))))
            return
        for more, now, after, off in opened(left[0]):
            go(left[1:] + now, done | {left[0]}, asks | more, later | set(after), put | set(off))
    go(list(lot), frozenset(), frozenset(), frozenset(), frozenset())
    return sorted(told)


class NormalForms(unittest.TestCase):
    def check(self, saying, form, contrary):
        self.assertEqual(normal_form(saying), form)
        self.assertEqual(contrary_form(saying), contrary)
        self.assertEqual(normal_form(("not", saying)), contrary)
        self.assertEqual(contrary_form(saying=("not", saying)), form)
        self.assertEqual(normal_form(saying=("not", ("not", saying))), form)

    def test_each_word(self):
        self.check(YES, YES, NO)
        for atom in (A, B, C):
            self.check(atom, IS[0], ISNT[0])
        self.check(("not", A), ISNT[0], IS[0])
        self.check(("and", A, B), ("and", IS[0], IS[1]), ("or", ISNT[0], ISNT[1]))
        self.check(("or", A, B), ("or", IS[0], IS[1]), ("and", ISNT[0], ISNT[1]))
        self.check(("until", A, B), until(IS[0], IS[1]), release(ISNT[0], ISNT[1]))
        self.check(("ever", A), until(YES, IS[0]), release(NO, ISNT[0]))
        self.check(("always", A), release(NO, IS[0]), until(YES, ISNT[0]))

    def test_nots_led_inward(self):
        self.check(("always", ("ever", A)), release(NO, until(YES, IS[0])), until(YES, release(NO, ISNT[0])))
        self.check(("not", ("and", ("not", A), ("until", B, ("not", C)))), ("or", IS[0], release(ISNT[1], IS[2])),
                   ("and", ISNT[0], until(IS[1], ISNT[2])))
        self.check(("until", ("not", YES), ("not", ("or", A, YES))), until(NO, ("and", ISNT[0], NO)),
                   release(YES, ("or", IS[0], YES)))
        self.check(("not", ("ever", ("not", ("always", ("not", A))))), release(NO, release(NO, ISNT[0])),
                   until(YES, until(YES, IS[0])))

    def test_atoms_by_the_order_in_which_they_begin(self):
        self.check(("and", ("or", B, A), ("and", C, B)), ("and", ("or", IS[0], IS[1]), ("and", IS[2], IS[0])),
                   ("or", ("and", ISNT[0], ISNT[1]), ("or", ISNT[2], ISNT[0])))

    def test_what_they_say(self):
        chance = chance_of(121)
        for _ in range(400):
            saying = some_saying(chance, 4)
            many = len(atoms_of(saying))
            letters = [tuple(chance.random() < 0.5 for _ in range(many)) for _ in range(chance.randint(1, 5))]
            again = chance.randrange(len(letters))
            form, contrary = normal_form(saying), contrary_form(saying)
            self.assertEqual(contrary, normal_form(("not", saying)))
            self.assertIs(form_at(form, letters, again, 0), not form_at(contrary, letters, again, 0), saying)


class Untils(unittest.TestCase):
    def test_in_the_order_in_which_they_begin(self):
        one, other = until(IS[0], IS[1]), until(YES, ISNT[2])
        self.assertEqual(untils_in(YES), [])
        self.assertEqual(untils_in(IS[0]), [])
        self.assertEqual(untils_in(one), [one])
        self.assertEqual(untils_in(release(one, other)), [one, other])
        self.assertEqual(untils_in(("and", other, ("or", one, other))), [other, one])
        self.assertEqual(untils_in(until(one, other)), [until(one, other), one, other])
        self.assertEqual(untils_in(form=until(until(other, one), until(one, other))),
                         [until(until(other, one), until(one, other)), until(other, one), other, one,
                          until(one, other)])

    def test_each_once_and_new_lists(self):
        one = until(IS[0], IS[1])
        form = ("and", one, ("or", one, release(one, one)))
        untils = untils_in(form)
        self.assertEqual(untils, [one])
        untils.append(None)
        self.assertEqual(untils_in(form), [one])


class Ways(unittest.TestCase):
    def test_of_no_form(self):
        self.assertEqual(ways((), []), [((), (), ())])
        self.assertEqual(ways((), [until(IS[0], IS[1])]), [((), (), ())])

    def test_of_one_form(self):
        self.assertEqual(ways((YES,), []), [((), (), ())])
        self.assertEqual(ways((NO,), []), [])
        self.assertEqual(ways((IS[3],), []), [(((3, True),), (), ())])
        self.assertEqual(ways((ISNT[1],), []), [(((1, False),), (), ())])
        self.assertEqual(ways((("and", IS[1], ISNT[0]),), []), [(((0, False), (1, True)), (), ())])
        self.assertEqual(ways((("or", IS[1], ISNT[0]),), []), [(((0, False),), (), ()), (((1, True),), (), ())])

    def test_until_and_release(self):
        one = until(IS[0], IS[1])
        self.assertEqual(ways((one,), [one]), [(((0, True),), (one,), (0,)), (((1, True),), (), ())])
        self.assertEqual(ways((one,), [until(YES, one), one]), [(((0, True),), (one,), (1,)), (((1, True),), (), ())])
        other = release(IS[0], IS[1])
        self.assertEqual(ways(lot=(other,), untils=[]),
                         [(((0, True), (1, True)), (), ()), (((1, True),), (other,), ())])
        always = release(NO, IS[0])
        self.assertEqual(ways((always,), []), [(((0, True),), (always,), ())])
        ever = until(YES, IS[0])
        self.assertEqual(ways((ever,), [ever]), [((), (ever,), (0,)), (((0, True),), (), ())])

    def test_contradicting_asks(self):
        self.assertEqual(ways((IS[0], ISNT[0]), []), [])
        self.assertEqual(ways((("or", IS[0], IS[1]), ISNT[0]), []), [(((0, False), (1, True)), (), ())])
        one = until(IS[0], IS[1])
        self.assertEqual(ways((ISNT[0], one), [one]), [(((0, False), (1, True)), (), ())])
        self.assertEqual(ways((ISNT[0], ISNT[1], one), [one]), [])

    def test_no_leaves_none(self):
        self.assertEqual(ways((("and", IS[0], NO),), []), [])
        self.assertEqual(ways((("or", IS[0], NO),), []), [(((0, True),), (), ())])
        self.assertEqual(ways((IS[0], NO), []), [])

    def test_of_several_forms(self):
        one, other = until(IS[0], IS[1]), release(IS[1], IS[2])
        lot = tuple(sorted((one, other, IS[0])))
        self.assertEqual(ways(lot, [one]), sorted([
            (((0, True), (1, True), (2, True)), (one,), (0,)),
            (((0, True), (2, True)), tuple(sorted((one, other))), (0,)),
            (((0, True), (1, True), (2, True)), (), ()), (((0, True), (1, True), (2, True)), (other,), ())]))

    def test_a_form_is_opened_once(self):
        either = ("or", IS[0], IS[1])
        self.assertEqual(ways((("and", either, IS[2]), either), []),
                         [(((0, True), (2, True)), (), ()), (((1, True), (2, True)), (), ())])
        one = until(YES, IS[0])
        self.assertEqual(ways((("and", IS[2], one), one), [one]),
                         [(((0, True), (2, True)), (), ()), (((2, True),), (one,), (0,))])

    def test_several_put_off(self):
        untils = [until(YES, IS[0]), until(YES, IS[1]), until(YES, IS[2])]
        lot = (untils[0], untils[2])
        self.assertEqual(ways(lot, untils), sorted([
            ((), lot, (0, 2)), (((0, True),), (untils[2],), (2,)), (((2, True),), (untils[0],), (0,)),
            (((0, True), (2, True)), (), ())]))
        inner = until(untils[0], untils[1])
        told = ways((inner,), [inner] + untils)
        self.assertEqual(told, ways_by_going((inner,), [inner] + untils))
        self.assertIn((((0, True),), (inner,), (0,)), told)
        self.assertIn(((), (inner, untils[0]), (0, 1)), told)
        self.assertIn(((), (untils[1],), (2,)), told)

    def test_by_chance(self):
        chance = chance_of(131)
        several = 0
        for _ in range(300):
            form = ("and", normal_form(some_saying(chance, 4)), normal_form(some_saying(chance, 4)))
            untils = untils_in(form)
            chance.shuffle(untils)
            lot = tuple(sorted({form[1], form[2]}))
            told = ways(lot, untils)
            self.assertEqual(told, ways_by_going(lot, untils), lot)
            self.assertEqual(told, sorted(set(told)))
            several += len(told) > 4
            told.clear()
            self.assertEqual(ways(lot, untils), ways_by_going(lot, untils))
            for asks, later, put in ways(lot, untils):
                self.assertEqual([n for n, truth in asks], sorted({n for n, truth in asks}))
                self.assertEqual(list(later), sorted(set(later)))
                self.assertTrue(all(isinstance(part, tuple) for part in (asks, later, put)))
        self.assertGreater(several, 40)

    def test_ways_say_what_the_lot_says(self):
        for lot in ((until(IS[0], IS[1]),), (release(IS[0], IS[1]),), (("or", IS[0], until(ISNT[0], IS[1])),)):
            told = ways(lot, untils_in(("and", lot[0], lot[0])))
            for letters in itertools.product(itertools.product((True, False), repeat=2), repeat=3):
                truth = form_at(lot[0], letters, 2, 0)
                ways_true = any(all(letters[0][n] == one for n, one in asks)
                                and all(form_at(form, letters, 2, 1) for form in later) for asks, later, put in told)
                self.assertIs(truth, ways_true, (lot, letters))


if __name__ == "__main__":
    unittest.main()
