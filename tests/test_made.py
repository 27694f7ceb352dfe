import copy
import unittest

from glassladder.drifting import letters_of
from glassladder.errors import GlassError, NoRound
from glassladder.forms import contrary_form, untils_in, ways
from glassladder.made import is_paper, machine_of, paper_of, takes
from glassladder.rounds import holds
from glassladder.sayings import atoms_of
from tests.machines import with_part
from tests.runs import some_real_runs
from tests.samples import anything_but, as_share, chance_of
from tests.test_rounds import A, B, C, YES, row, some_letters, some_saying

AGAIN = ("always", ("ever", A))
UNTIL = ("until", A, B)
SAYINGS = (YES, ("not", YES), A, ("not", A), AGAIN, ("not", AGAIN), UNTIL, ("not", UNTIL), ("ever", ("always", A)),
           ("or", ("ever", A), ("until", B, ("always", C))), ("and", AGAIN, ("always", ("ever", B))),
           ("not", ("and", AGAIN, ("always", ("ever", B)))), ("until", UNTIL, ("and", B, ("ever", A))))


def made_by_going(saying):
    """The made machine and its paper, told here from ways alone."""
    form = contrary_form(saying)
    untils = untils_in(form)
    lots, choices = [(form,)], []
    for lot in lots:
        here = []
        for asks, later, put in ways(lot, untils):
            if later not in lots:
                lots.append(later)
            here.append((asks, lots.index(later), tuple(n for n in range(len(untils)) if n not in put)))
        choices.append(tuple(here))
    return (tuple(choices), len(untils)), tuple(lots)


def is_tuples(thing):
    """Whether it is tuples all through, with whole numbers, truths and texts."""
    return all(map(is_tuples, thing)) if isinstance(thing, tuple) else isinstance(thing, (int, str))


class Told(unittest.TestCase):
    def test_by_hand(self):
        self.assertEqual(machine_of(YES), (((),), 0))
        self.assertEqual(paper_of(YES), ((("no",),),))
        self.assertEqual(machine_of(("not", YES)), (((((), 1, ()),), (((), 1, ()),)), 0))
        self.assertEqual(paper_of(("not", YES)), ((YES,), ()))
        self.assertEqual(machine_of(A), ((((((0, False),), 1, ()),), (((), 1, ()),)), 0))
        # The contrary of `always ever a` is that ever, from then on, a isn't.
        never = ("release", ("no",), ("isnt", 0))
        self.assertEqual(paper_of(saying=AGAIN), ((("until", YES, never),), (never,)))
        self.assertEqual(machine_of(saying=AGAIN), ((
            (((), 0, ()), (((0, False),), 1, (0,))), ((((0, False),), 1, (0,)),)), 1))

    def test_kept_are_all_untils_not_put_off(self):
        choices, many = machine_of(("not", ("and", ("ever", A), ("ever", B))))
        self.assertEqual(many, 2)
        self.assertEqual(choices[0], (
            ((), 1, ()), (((0, True),), 2, (0,)), (((0, True), (1, True)), 3, (0, 1)), (((1, True),), 4, (1,))))

    def test_as_the_ways_tell(self):
        chance = chance_of(141)
        for saying in list(SAYINGS) + [some_saying(chance, 4) for _ in range(150)]:
            machine, paper = made_by_going(saying)
            self.assertEqual(machine_of(saying), machine)
            self.assertEqual(paper_of(saying), paper)
            self.assertTrue(is_tuples(machine_of(saying)) and is_tuples(paper_of(saying)))
            self.assertEqual(machine_of(saying), machine_of(copy.deepcopy(saying)))
            self.assertIs(is_paper(saying, machine, paper), True)


class Papers(unittest.TestCase):
    def turned(self, chance, machine, paper):
        """The machine and the paper with stands in another order, but for the first one, and choices turned about."""
        order = list(range(1, len(paper)))
        chance.shuffle(order)
        order = [0] + order
        choices = []
        for old in order:
            some = [(asks, order.index(to), kept) for asks, to, kept in machine[0][old]]
            chance.shuffle(some)
            choices.append(tuple(some))
        return (tuple(choices), machine[1]), tuple(paper[old] for old in order)

    def test_in_another_order(self):
        chance = chance_of(142)
        for saying in list(SAYINGS) + [some_saying(chance, 4) for _ in range(60)]:
            machine, paper = self.turned(chance, machine_of(saying), paper_of(saying))
            self.assertIs(is_paper(saying, machine, paper), True, saying)
            if paper != paper_of(saying):
                self.assertIs(is_paper(saying, machine, paper_of(saying)), False)
                self.assertIs(is_paper(saying, machine_of(saying), paper), False)

    def test_choices_turned_about(self):
        machine, paper = machine_of(AGAIN), paper_of(AGAIN)
        self.assertIs(is_paper(AGAIN, ((machine[0][0][::-1], machine[0][1]), 1), paper), True)
        self.assertIs(is_paper(AGAIN, (machine[0][::-1], 1), paper[::-1]), False)

    def test_a_stand_more_and_a_stand_twice(self):
        (first, second), many = machine_of(AGAIN)
        paper = paper_of(AGAIN)
        lot = (("isnt", 0),)
        more = ((first, second, (((0, False),), 3, (0,)),), many)
        self.assertIs(is_paper(AGAIN, more, paper + (lot,)), False)
        more = ((first, second, ((((0, False),), 3, (0,)),), (((), 3, (0,)),)), many)
        self.assertIs(is_paper(AGAIN, more, paper + (lot, ())), True)
        self.assertIs(is_paper(AGAIN, more, paper + (lot, (YES,))), False)
        twice = ((first, ((second[0][0], 2, (0,)),), ((second[0][0], 1, (0,)),)), many)
        self.assertIs(is_paper(AGAIN, twice, paper + paper[1:]), True)
        self.assertIs(is_paper(AGAIN, twice, paper + paper[:1]), False)
        self.assertIs(is_paper(AGAIN, twice, paper), False)
        self.assertIs(is_paper(AGAIN, machine_of(AGAIN), paper + paper[1:]), False)
        self.assertIs(is_paper(AGAIN, machine_of(AGAIN), paper[:1]), False)

    def test_stands_with_forms_that_are_none(self):
        (first, second), many = machine_of(AGAIN)
        paper = paper_of(AGAIN)
        for lot in ((("is", 1),), (("is", -1),), (("is", True),), (("isnt", False),), (("is", 0), ("is", 0)),
                    (("isnt", 0), ("is", 0)), (("yes", 0),), (("until", YES, ("is", 0)),), (("and", YES),),
                    (("not", YES),), [YES], YES, ("yes",), (None,), None, (("is",),), (("or", YES, ()),), ((),)):
            machine = ((first, second, (((0, True),), 2, (0,))), many)
            self.assertIs(is_paper(AGAIN, machine, paper + (lot,)), False, lot)
            for choices in ((), (((), 2, (0,)),), ((((0, True),), 2, (0,)),)):
                self.assertIs(is_paper(AGAIN, ((first, second, choices), many), paper + (lot,)), False, lot)

    def test_lots_that_would_have_ways(self):
        # The choice would be right, if there were such a lot.
        (first, second), many = machine_of(AGAIN)
        machine = ((first, second, (((), 3, (0,)),), (((), 3, (0,)),)), many)
        for lot in ((YES,), (("and", YES, YES),), ()):
            self.assertIs(is_paper(AGAIN, machine, paper_of(AGAIN) + (lot, ())), True, lot)
        for lot in ((("and", YES),), (("and", YES, YES, YES),), (YES, YES), (("and",),), (("yes", YES),),
                    (("and", YES, YES), ("and", YES, YES)), (YES, ("and", YES, YES)), [YES]):
            self.assertIs(is_paper(AGAIN, machine, paper_of(AGAIN) + (lot, ())), False, lot)
        self.assertIs(is_paper(AGAIN, ((), 1), ()), False)

    def test_asks_and_kept_of_anything(self):
        (first, second), many = machine_of(AGAIN)
        asks, to, kept = second[0]
        for thing in anything_but():
            for choice in (((thing,), to, kept), (asks + (thing,), to, kept), ((thing,) + asks, to, kept),
                           (((0, False, thing),), to, kept), (((0, thing),), to, kept), (((thing, False),), to, kept),
                           (asks, to, (0, thing)), (asks, to, (thing,)), (asks, thing, kept)):
                if choice not in second or repr(choice) != repr(second[0]):
                    self.assertIs(is_paper(AGAIN, ((first, (choice,)), many), paper_of(AGAIN)), False, choice)

    def test_one_thing_put_otherwise(self):
        (first, second), many = machine_of(AGAIN)
        paper = paper_of(AGAIN)
        asks, to, kept = second[0]
        for choice in ((asks, 0, kept), (asks, 2, kept), (asks, -1, kept), (asks, True, kept), ((), to, kept),
                       (((0, True),), to, kept), (((0, 0),), to, kept), (((False, False),), to, kept),
                       (((1, False),), to, kept), (asks, to, ()), (asks, to, (1,)), (asks, to, (0, 0)),
                       (asks, to, (False,)), (asks, to, [0]), ([(0, False)], to, kept), (([0, False],), to, kept),
                       (asks + asks, to, kept), (asks, to), (asks, to, kept, ()), [asks, to, kept], (asks, None, kept),
                       (None, to, kept), (asks, to, None), None, ()):
            self.assertIs(is_paper(AGAIN, ((first, (choice,)), many), paper), False, choice)
        for choices in ((), second * 2, second + first, list(second), None, first):
            self.assertIs(is_paper(AGAIN, ((first, choices), many), paper), False, choices)
        for machine in (((first, second), 0), ((first, second), 2), ((first, second), True), ((first, second),),
                        ((first, second), 1, 1), [(first, second), 1], ([first, second], 1), (first, second), ((), 1),
                        ((first,), 1), ((first, second, second), 1), ((second, first), 1), ((first, second), None)):
            self.assertIs(is_paper(AGAIN, machine, paper), False, machine)
        for thing in (paper[::-1], list(paper), paper + ((),), paper[:1], (), (paper[0], ()), (paper[0], paper[0]),
                      (list(paper[0]), paper[1]), (paper[0], list(paper[1])), (paper[0][0], paper[1]),
                      (paper[0], (("release", ("no",), ("is", 0)),)), ((), paper[1]),
                      (paper[0], (("release", ("no",), ("isnt", False)),))):
            self.assertIs(is_paper(AGAIN, (tuple([first, second]), many), thing), False, thing)

    def test_of_anything(self):
        machine, paper = machine_of(UNTIL), paper_of(UNTIL)
        for thing in anything_but():
            self.assertIs(is_paper(UNTIL, thing, paper), False, thing)
            self.assertIs(is_paper(UNTIL, machine, thing), False, thing)
            self.assertIs(is_paper(thing=thing, machine=thing, saying=UNTIL), False, thing)
            for at in range(len(paper)):
                if thing != () or paper[at] != ():
                    self.assertIs(is_paper(UNTIL, machine, with_part(paper, at, thing)), False, thing)
                if thing != machine[0][at]:
                    self.assertIs(is_paper(UNTIL, (with_part(machine[0], at, thing), machine[1]), paper), False, thing)

    def test_of_another_saying(self):
        for one in SAYINGS:
            for other in SAYINGS:
                truth = contrary_form(one) == contrary_form(other)
                self.assertIs(is_paper(one, machine_of(other), paper_of(other)), truth, (one, other))


class Takes(unittest.TestCase):
    def test_by_hand(self):
        machine = machine_of(AGAIN)
        for stem, lap, truth in (("1 1", "0", True), ("0 0", "0 1", False), ("", "1 0 0", False), ("", "0 0 0", True)):
            self.assertIs(takes(machine, row(stem, lap)), truth)
            self.assertIs(takes(thing=row(stem, lap), machine=machine), truth)
        self.assertIs(takes(machine_of(YES), ([], [()])), False)
        self.assertIs(takes(machine_of(("not", YES)), ([()], [(), ()])), True)

    def test_just_where_the_saying_does_not_hold(self):
        chance = chance_of(143)
        truths = []
        for at in range(900):
            saying = SAYINGS[at] if at < len(SAYINGS) else some_saying(chance, 4)
            many = len(atoms_of(saying))
            machine, other = machine_of(saying), machine_of(("not", saying))
            for _ in range(3):
                thing = tuple(some_letters(chance, chance.randint(fewest, 4), many) for fewest in (0, 1))
                before = copy.deepcopy(thing)
                truth = holds(saying, thing)
                self.assertIs(takes(machine, thing), not truth, (saying, thing))
                self.assertIs(takes(other, thing), truth, (saying, thing))
                self.assertEqual(thing, before)
                truths.append(truth)
        self.assertGreater(truths.count(True), 500)
        self.assertGreater(truths.count(False), 500)

    def test_on_letters_of_drifting_runs(self):
        chance = chance_of(144)
        truths = []
        for system, run in some_real_runs(chance, 120):
            wishes = [("wish", (chance.choice(("least", "above")), (as_share(chance.randint(-6, 3)), (
                (chance.choice(system[0]), as_share(chance.choice((1, -1)))),)))) for _ in range(2)]
            saying = some_saying(chance, 4)
            saying = self.with_atoms(saying, {A: wishes[0], B: ("deed", system[2][0][2][0][1]), C: wishes[1]})
            thing = letters_of(system, run, atoms_of(saying))
            truth = holds(saying, thing)
            self.assertIs(takes(machine_of(saying), thing), not truth)
            self.assertIs(takes(machine_of(("not", saying)), thing), truth)
            truths.append(truth)
        self.assertGreater(truths.count(True), 20)
        self.assertGreater(truths.count(False), 20)

    def with_atoms(self, saying, atoms):
        if saying in atoms:
            return atoms[saying]
        return saying[:1] + tuple(self.with_atoms(half, atoms) for half in saying[1:])

    def test_machines_in_another_order(self):
        (first, second), many = machine_of(AGAIN)
        for machine in (((first[::-1], second), many),
                        ((((), 0, ()), (((0, False),), 2, (0,))), second, ((((0, False),), 1, (0,)),))):
            machine = machine if machine[1] == many else (machine, many)
            for stem, lap, truth in (("1 1", "0", True), ("0 0", "0 1", False), ("", "0", True), ("0", "1", False)):
                self.assertIs(takes(machine, row(stem, lap)), truth)

    def test_long_rows(self):
        letters = [(at % 7 == 0,) for at in range(3000)]
        self.assertIs(takes(machine_of(AGAIN), (letters, letters)), False)
        self.assertIs(takes(machine_of(AGAIN), (letters, [(False,)] * 3000)), True)

    def test_letters_longer_than_asked(self):
        thing = ([(False, True, True)], [(True, False, True), (False, False, False)])
        self.assertIs(takes(machine_of(AGAIN), thing), False)
        self.assertIs(takes(machine_of(YES), thing), False)
        self.assertIs(takes(machine_of(("not", YES)), thing), True)


class Refused(unittest.TestCase):
    def refused(self, saying, thing):
        with self.assertRaises(NoRound) as caught:
            takes(machine_of(saying), thing)
        self.assertIsInstance(caught.exception, GlassError)

    def test_of_anything(self):
        for thing in anything_but():
            for saying in (A, YES, UNTIL):
                self.refused(saying, thing)
                self.refused(saying, ([], thing))
                self.refused(saying, ([(True, True)], thing))
                self.refused(saying, ([(True, True)], [(True, True), thing]))
                self.refused(saying, ([thing], [(True, True)]))
                if thing != []:
                    self.refused(saying, (thing, [(True, True)]))
            self.refused(A, ([(True,)], [thing]))
            if not isinstance(thing, bool):
                self.refused(A, ([], [(thing,)]))
                self.refused(YES, ([], [(thing,)]))
                self.refused(UNTIL, ([(True, True)], [(True, thing)]))

    def test_letters_of_unlike_lengths(self):
        one, two = (True,), (True, True)
        for thing in (([one], [two]), ([two], [one]), ([], [one, two]), ([one, two], [two]), ([()], [one]),
                      ([], [two, ()]), ([one], [()])):
            for saying in (A, YES, ("not", YES), UNTIL):
                self.refused(saying, thing)

    def test_letters_that_lack_what_is_asked(self):
        self.refused(A, ([], [()]))
        self.refused(UNTIL, ([], [(True,)]))
        self.refused(UNTIL, ([(False,)], [(False,)]))
        self.refused(("and", A, ("until", B, C)), ([], [(True, True)]))
        # The atom is asked by some choice, though by none that a row comes to.
        self.refused(("or", A, ("until", B, C)), ([(True,)], [(True,)]))

    def test_forms(self):
        letter = (True,)
        for thing in (([], []), ([letter], []), [[], [letter]], ([], [letter], []), ([letter],), ((letter,), [letter]),
                      ([], (letter,)), ([], [[True]]), ([], [True]), ([], [(1,)]), ([], [(None,)]), ([(0,)], [letter])):
            self.refused(A, thing)
            self.refused(YES, thing)


if __name__ == "__main__":
    unittest.main()
