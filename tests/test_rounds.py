import copy
import unittest

from glassladder.errors import GlassError, NoRound
from glassladder.rounds import holds
from glassladder.sayings import atoms_of
from tests.samples import anything_but, chance_of, least

YES = ("yes",)
A = ("place", "m", "a")
B = ("deed", "b")
C = ("wish", least(0, x=1))


def row(stem, lap):
    """A row of letters, written as texts, one sign for an atom's truths: a letter each, parted by blanks."""
    return tuple([tuple(sign == "1" for sign in letter) for letter in text.split()] for text in (stem, lap))


def judged(saying, atoms, letters, again, at):
    """Whether a saying holds at a moment, found here by going on moment by moment."""
    word = saying[0]
    if saying in atoms:
        return letters[at][atoms.index(saying)]
    if word == "yes":
        return True
    if word in ("ever", "always", "until"):
        moments = [at]
        while len(moments) <= 2 * len(letters):
            moments.append(moments[-1] + 1 if moments[-1] + 1 < len(letters) else again)
        truths = [[judged(half, atoms, letters, again, one) for half in saying[1:]] for one in moments]
        if word == "ever":
            return any(truth[0] for truth in truths)
        if word == "always":
            return all(truth[0] for truth in truths)
        for first, second in truths:
            if second or not first:
                return second
        return False
    halves = [judged(half, atoms, letters, again, at) for half in saying[1:]]
    return {"not": not halves[0], "and": all(halves), "or": any(halves)}[word]


def some_saying(chance, most):
    """A saying by chance."""
    if most == 1 or chance.random() < 0.2:
        return chance.choice((YES, A, B, C, A, B))
    word = chance.choice(("not", "and", "or", "always", "ever", "until", "until"))
    many = 2 if word in ("and", "or", "until") else 1
    return (word,) + tuple(some_saying(chance, most - 1) for _ in range(many))


def some_letters(chance, many, atoms):
    return [tuple(chance.random() < 0.6 for _ in range(atoms)) for _ in range(many)]


class Holds(unittest.TestCase):
    def check(self, saying, truth, stem, lap):
        self.assertIs(holds(saying, row(stem, lap)), truth, (saying, stem, lap))
        self.assertIs(holds(("not", saying), row(stem, lap)), not truth)

    def test_yes(self):
        self.assertIs(holds(YES, ([], [()])), True)
        self.assertIs(holds(("not", YES), ([(), ()], [(), ()])), False)
        self.assertIs(holds(("until", ("not", YES), YES), ([()], [()])), True)
        self.assertIs(holds(("until", YES, ("not", YES)), ([()], [()])), False)

    def test_atoms_at_the_first_moment(self):
        for atom in (A, B, C):
            self.check(atom, True, "1", "0")
            self.check(atom, False, "0", "1")
            self.check(atom, True, "", "1 0")
            self.check(atom, False, "", "0 1")

    def test_and_or(self):
        for letter, both, either in (("11", True, True), ("10", False, True), ("01", False, True),
                                     ("00", False, False)):
            self.check(("and", A, B), both, letter, "11 00")
            self.check(("or", A, B), either, letter, "11 00")
            self.check(("and", A, B), both, "", letter)
            self.check(("or", A, B), either, "", letter)

    def test_always_and_ever(self):
        for stem, lap, always, ever in (("", "1", True, True), ("", "0", False, False), ("", "1 0", False, True),
                                        ("1 1", "1 1 1", True, True), ("1 1", "1 1 0", False, True),
                                        ("0 1", "1", False, True), ("1 0", "1", False, True),
                                        ("0 0", "0 0 1", False, True), ("0 1", "0", False, True),
                                        ("1", "0", False, True), ("0", "0 0", False, False)):
            self.check(("always", A), always, stem, lap)
            self.check(("ever", A), ever, stem, lap)

    def test_again_and_again(self):
        again = ("always", ("ever", A))
        for stem, lap, truth in (("1 1", "0", False), ("0 0", "0 1", True), ("", "1 0 0", True), ("", "0 0 0", False)):
            self.check(again, truth, stem, lap)
        at_last = ("ever", ("always", A))
        for stem, lap, truth in (("0 0", "1", True), ("1 1", "1 0", False), ("", "1 1", True), ("1", "0", False)):
            self.check(at_last, truth, stem, lap)

    def test_until(self):
        until = ("until", A, B)
        for stem, lap, truth in (
            ("01", "00", True), ("10 01", "00", True), ("10 00 01", "00", False), ("00 01", "00", False),
            ("10 10", "10 10 01", True), ("10 10", "10 00 01", False), ("", "10 01", True), ("", "10", False),
            ("10", "10", False), ("", "01 00", True), ("11", "00", True), ("", "00", False), ("10", "00 01", False),
            ("10 10", "10", False), ("", "10 10 11", True),
        ):
            self.check(until, truth, stem, lap)

    def test_what_comes_behind_the_begin_of_the_lap_alone(self):
        # The moment is asked of from a later one of the lap, and comes at its begin, once round.
        self.check(("ever", ("and", ("not", A), ("until", ("not", A), A))), True, "", "1 0 0")
        self.check(("always", ("or", A, ("ever", A))), True, "", "1 0 0")
        self.check(("ever", ("and", B, ("until", B, A))), True, "", "01 00 10")
        self.check(("ever", ("and", B, ("until", B, A))), False, "", "01 10 00")

    def test_an_atom_twice(self):
        self.check(("until", A, ("and", B, A)), True, "10", "11")

    def test_by_chance(self):
        chance = chance_of(81)
        truths = []
        for _ in range(1500):
            saying = some_saying(chance, 4)
            atoms = atoms_of(saying)
            stem = some_letters(chance, chance.randint(0, 3), len(atoms))
            lap = some_letters(chance, chance.randint(1, 4), len(atoms))
            truth = judged(saying, atoms, stem + lap, len(stem), 0)
            thing = (stem, lap)
            before = copy.deepcopy(thing)
            self.assertIs(holds(saying, thing), truth, (saying, thing))
            self.assertEqual(thing, before)
            for other in ((stem, lap + lap), (stem + lap[:1], lap[1:] + lap[:1]), (stem + lap, lap), (stem, lap * 3)):
                self.assertIs(holds(saying, other), truth, (saying, other))
            truths.append(truth)
        self.assertGreater(truths.count(True), 300)
        self.assertGreater(truths.count(False), 300)

    def test_by_names(self):
        self.assertIs(holds(thing=row("", "1"), saying=A), True)


class Refused(unittest.TestCase):
    def refused(self, saying, thing):
        with self.assertRaises(NoRound) as caught:
            holds(saying, thing)
        self.assertIsInstance(caught.exception, GlassError)

    def test_of_anything(self):
        for thing in anything_but():
            self.refused(A, thing)
            self.refused(YES, thing)
            self.refused(A, ([], thing))
            self.refused(A, ([(True,)], thing))
            self.refused(A, ([(True,)], [thing]))
            self.refused(A, ([thing], [(True,)]))
            self.refused(A, ([(True,)], [(True,), thing]))
            if thing != []:
                self.refused(A, (thing, [(True,)]))
            if not isinstance(thing, bool):
                self.refused(A, ([], [(thing,)]))
                self.refused(("and", A, B), ([(True, True)], [(True, thing)]))

    def test_forms(self):
        letter = (True,)
        for thing in (([], []), ([letter], []), [[], [letter]], ([], [letter], []), ([letter],), ((letter,), [letter]),
                      ([], (letter,)), ([], [[True]]), ([], [True]), ([], [()]), ([], [(True, True)]),
                      ([letter], [letter, (True, False)]), ([()], [letter]), ([letter, None], [letter]),
                      {0: [], 1: [letter]}, ([], [(1,)]), ([], [(0,)]), ([], [(None,)]), ([(1,)], [letter]),
                      ([], [{True: True}])):
            self.refused(A, thing)
        for thing in (([], [(True,)]), ([()], [(True,)]), ([(False,)], [()])):
            self.refused(YES, thing)


if __name__ == "__main__":
    unittest.main()
