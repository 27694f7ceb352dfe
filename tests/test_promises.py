"""What is promised over the whole program: arguments by their names, what is told is new, and (a) to (j)."""

import copy
import inspect
import itertools
import unittest

from glassladder import (
    breaking, drifting, forms, granting, joined, joining, ladder, leading, lines, looker, made, rounds, rungs, sayings,
    shares, steps, systems, texts, through, together, unasked, watchers, whys, wordtexts,
)
from glassladder.breaking import is_breaking
from glassladder.desk import Desk
from glassladder.drifting import counts, is_run, letters_of
from glassladder.house import House
from glassladder.ladder import Ladder
from glassladder.looker import is_joined, look_at_joined
from glassladder.made import machine_of, takes
from glassladder.real import Real
from glassladder.rounds import holds
from glassladder.sayings import atoms_of
from glassladder.watchers import Watcher, watched
from tests.machines import FIRST, SYSTEM, saying_called, system_called
from tests.papers import atoms_over, rounds_of, some_saying_over, some_small_system, with_item
from tests.runs import move, rest_of, some_counters, some_drifting_system, some_real_runs, some_run
from tests.samples import above, chance_of, least, line

DOWN_ROW = ("a", "down", (least(-1, x=1),), (("x", line(-1, x=1)), ("y", None)), "a")
DOWN = (("x", "y"), (least(0, x=1),), (("m", ("a", "b"), (DOWN_ROW, ("b", "down", (), (), "a"))),), ("down",))
FALLS = ("not", ("always", ("ever", ("deed", "down"))))
X = least(0, x=1)
STEP = ("down", (0,))
REST = ("rest", (None,))
RUN = ((("x", (3, 1)), ("y", (0, 1))), [(STEP, (("y", (1, 1)),), (("y", (0, 1)),))], [(REST, (), ())])
RUNG = together.together(DOWN, FALLS)
LOW = Ladder(RUNG[2], FALLS, rungs=()).paper()
PAPER = Ladder(DOWN, FALLS).paper()
FOUND = through.table(DOWN, FALLS, [X])
ATOMS = [("deed", "down"), ("wish", X)]
FORM = forms.contrary_form(FALLS)
TIES = [(0, 1, (0,)), (1, 0, ()), (1, 2, (1,))]
# Each def of the interface with arguments; none of what it tells is kept by it.
CALLS = (
    (shares.is_share, (1, 2)), (shares.share, 4, 6), (shares.plus, (1, 2), (1, 3)), (shares.minus, (1, 2), (1, 3)),
    (shares.times, (1, 2), (1, 3)), (shares.over, (1, 2), (1, 3)), (shares.less, (1, 2), (1, 3)), (lines.is_name, "a"),
    (lines.is_line, line(1, x=1)), (lines.line_of, (1, 2), {"x": (1, 1)}), (lines.line_plus, line(1, x=1),
    line(2, y=1)), (lines.line_minus, line(1, x=1), line(2, y=1)), (lines.line_times, line(1, x=1), (2, 1)),
    (lines.put, line(1, x=1), "x", line(3)), (lines.all_put, line(1, x=1), {"x": line(3)}),
    (lines.worth, line(1, x=1), {"x": (1, 1)}), (lines.names_of, line(1, x=1, y=2)), (granting.is_wish, X),
    (granting.granted, X, {"x": (1, 1)}), (granting.told, [X]), (granting.told, [X, above(0, x=-1)]),
    (granting.bars, [X, above(0, x=-1)], [(1, 1), (1, 1)]), (granting.can_be, [X]),
    (granting.follows, [X], least(1, x=1)),
    (granting.contraries, X), (granting.put_all, X, {"x": line(1)}), (systems.look_at_system, DOWN),
    (systems.deeds_of, DOWN), (systems.begin_places, DOWN), (steps.is_places, DOWN, ("a",)),
    (steps.is_step, DOWN, STEP),
    (steps.steps_from, DOWN, ("a",)), (steps.wishes_of, DOWN, STEP), (steps.sets_of, DOWN, STEP),
    (steps.behind, DOWN, ("a",), STEP), (steps.reads_of, DOWN, STEP), (steps.can_stand, DOWN, ("a",), STEP),
    (sayings.look_at_saying, DOWN, FALLS), (sayings.atoms_of, FALLS), (rounds.holds, FALLS, ([(True,)], [(False,)])),
    (drifting.is_run, DOWN, RUN), (drifting.counts, DOWN, RUN), (drifting.letters_of, DOWN, RUN, ATOMS),
    (forms.normal_form, FALLS), (forms.contrary_form, FALLS), (forms.untils_in, FORM),
    (forms.ways, (FORM,), forms.untils_in(FORM)), (made.machine_of, FALLS), (made.paper_of, FALLS),
    (made.is_paper, FALLS, made.machine_of(FALLS), made.paper_of(FALLS)),
    (made.takes, made.machine_of(FALLS), ([], [(True,)])), (whys.is_why, [0, 1, 2], TIES, 2, ("lot", 1)),
    (whys.sought, 3, [0], TIES, 1), (whys.sought, 3, [0], TIES, 2), (whys.pieces, [0, 1, 2], TIES),
    (joined.conditions, DOWN, FALLS, ("a",), 0, (X,), STEP, 0), (joined.set_by, DOWN, STEP),
    (looker.look_at_joined, DOWN, FALLS, PAPER), (looker.is_joined, DOWN, FALLS, PAPER),
    (looker.is_asked_so, DOWN, FALLS, PAPER, 0, STEP, 0), (looker.is_why_so, DOWN, FALLS, PAPER), (rungs.is_rung, RUNG),
    (rungs.led_places, RUNG, ("a",)), (rungs.led_step, RUNG, STEP), (rungs.is_shown, RUNG, FALLS),
    (rungs.led_saying, RUNG, FALLS), (unasked.unasked, DOWN, FALLS), (together.together, DOWN, FALLS),
    (joining.behind_one_another, [RUNG]), (joining.joined_up, RUNG, FALLS, LOW), (through.table, DOWN, FALLS, [X]),
    (through.begins_of, ("split", X, ("to", 1), ("to", 0))), (through.sought_by, DOWN, FALLS, FOUND, []),
    (through.sought_by, DOWN, FALLS, FOUND, [line(0, x=1)]), (leading.led_back, DOWN, ([(STEP, ())], [(REST, ())])),
    (leading.led_begin, DOWN, [(STEP, ()), (REST, (X,))]), (leading.led_begin, DOWN, [(STEP, (above(0, x=-1),))]),
    (breaking.is_breaking, DOWN, FALLS, RUN), (watchers.watched, DOWN, FALLS, RUN), (wordtexts.show_line, line(1, x=1)),
    (wordtexts.show_wish, X), (texts.show_system, DOWN), (texts.show_saying, FALLS), (texts.show_run, RUN),
    (texts.read_line, "1+1*x"), (texts.read_wish, "1+1*x>0"), (texts.read_system, texts.show_system(DOWN)),
    (texts.read_saying, "yes"), (texts.read_run, texts.show_run(RUN)),
)


def emptied(thing):
    """Empties all lists and dicts within a thing."""
    for one in list(thing.values()) if isinstance(thing, dict) else thing if isinstance(thing, (list, tuple)) else ():
        emptied(one)
    if isinstance(thing, (list, dict)):
        thing.clear()


class Calls(unittest.TestCase):
    def test_all_defs_are_called(self):
        from tests.test_interface import FUNCTIONS
        told = {(call[0].__module__.split(".")[1], call[0].__name__) for call in CALLS}
        told.add(("shares", "total"))
        self.assertEqual({(stem, name) for stem, names in FUNCTIONS.items() for name in names}, told)

    def test_by_names_in_another_order(self):
        for one, *handed in CALLS:
            names = list(inspect.signature(one).parameters)[:len(handed)]
            self.assertEqual(one(**dict(list(zip(names, handed))[::-1])), one(*handed), one)
        self.assertEqual(shares.total(start=(1, 2), some=[(1, 2)]), (1, 1))
        with self.assertRaises(TypeError):
            shares.total([(1, 2)], (1, 2))

    def test_told_things_are_new(self):
        for one, *handed in CALLS:
            before = copy.deepcopy(handed)
            first = one(*handed)
            kept = copy.deepcopy(first)
            emptied(first)
            self.assertEqual(one(*handed), kept, one)
            self.assertEqual(handed, before, one)

    def test_what_is_told_keeps_nothing_of_what_was_handed_in(self):
        for one, *handed in CALLS:
            given = copy.deepcopy(handed)
            told = one(*given)
            kept = copy.deepcopy(told)
            emptied(given)
            self.assertEqual(told, kept, one)

    def test_methods_by_names(self):
        real = Real(numbers=FIRST, system=SYSTEM)
        real.do(reads={"x": (9, 1)}, step=("ask", (1, None, None)))
        self.assertEqual(len(real), 1)
        house = House(rounds=1, laps=1, rungs=(), system=DOWN)
        house.put(saying=FALLS, name="falls")
        house.other_row(other=DOWN_ROW, number=0, machine=0)
        house.begins(wishes=())
        house.together(deeds=[("drop", "falls")])
        house.back(many=1)
        for asked in ("word", "way", "paper", "run", "asks"):
            self.assertEqual(getattr(house, asked)(name="falls"), getattr(house, asked)("falls"))
        house.drop(name="falls")
        self.assertEqual(Watcher(knowing=None, saying=FALLS, system=DOWN).tell(letter=(True,)), "open")
        self.assertEqual(Desk().say(row="names"), "-")
        one = Ladder(rounds=0, rungs=(), saying=FALLS, system=DOWN, laps=4)
        one.go(many=2)
        self.assertEqual(one.gone(), 2)

    def test_names_alone(self):
        for call in (lambda: Ladder(DOWN, FALLS, ()), lambda: House(DOWN, ()), lambda: House(DOWN).back(1),
                     lambda: Watcher(DOWN, FALLS, None), lambda: Real(SYSTEM, FIRST).do(("rest", (None,) * 3), {})):
            with self.assertRaises(TypeError):
                call()

    def test_objects_keep_their_own(self):
        numbers = dict(FIRST)
        real = Real(SYSTEM, numbers)
        before = real.stand()
        numbers["x"] = (77, 1)
        self.assertEqual(real.stand(), before)
        deeds = [("put", "falls", FALLS)]
        house = House(DOWN)
        house.together(deeds)
        deeds.append(("drop", "falls"))
        house.back()
        house.together(deeds[:1])
        self.assertEqual(house.sayings(), {"falls": FALLS})
        self.assertEqual(ladder.RUNGS, ("unasked", "together"))

    def test_no_such_object(self):
        for one in (Real(SYSTEM, FIRST), House(DOWN), Ladder(DOWN, FALLS), Watcher(DOWN, FALLS), Desk()):
            for thing in (None, 0, "", [], DOWN, (DOWN, {}), {}):
                self.assertIs(one == thing, False)


def some_case(chance):
    """A system, atoms over it, and a saying."""
    system = chance.choice((some_small_system, some_drifting_system, some_counters))(chance)
    atoms = atoms_over(system)
    if system[0]:
        atoms += [("wish", chance.choice((least, above))(chance.randint(-1, 2), **{chance.choice(system[0]): sign}))
                  for sign in (1, -1)]
    again = ("not", ("always", ("ever", chance.choice([atom for atom in atoms if atom[0] == "deed"]))))
    return system, atoms, again if chance.random() < 0.3 else some_saying_over(chance, atoms, 3)


def runs_of(chance, system, many):
    """Some runs of a system, real ones and others."""
    if not system[0]:
        return list(itertools.islice(rounds_of(system, 3), many))
    return [some_run(chance, system) for _ in range(many)]


def tampered(chance, paper, system):
    """A paper with one change."""
    entries, begin, leads, why = copy.deepcopy(paper)
    kind = chance.randrange(6)
    at = chance.randrange(len(entries))
    if kind == 0:
        places, stand, wishes = entries[at]
        entries[at] = (places, stand, wishes[:-1])
    elif kind == 1 and leads[at]:
        del leads[at][chance.randrange(len(leads[at]))]
    elif kind == 2 and leads[at]:
        number = chance.randrange(len(leads[at]))
        step, n, fan = leads[at][number]
        leads[at][number] = (step, n, ("to", chance.randrange(len(entries))))
    elif kind == 3:
        why = ("lot", chance.randrange(3))
    elif kind == 4:
        begin = ("to", chance.randrange(len(entries)))
    else:
        places, stand, wishes = entries[at]
        entries[at] = (with_item(places, chance.randrange(len(places)), None), stand, wishes)
    return (entries, begin, leads, why)


class Promises(unittest.TestCase):
    def test_a_never_a_paper_and_a_run(self):
        chance = chance_of(60)
        held = 0
        for _ in range(120):
            system, atoms, saying = some_case(chance)
            one = Ladder(system, saying, rounds=5)
            papers = [one.paper()] if one.word() == "holds" else []
            if papers and papers[0][0]:
                papers += [tampered(chance, papers[0], system) for _ in range(5)]
            papers = [paper for paper in papers if look_at_joined(system, saying, paper) is None]
            if one.word() == "holds":
                self.assertTrue(papers)
            for run in runs_of(chance, system, 25):
                if papers:
                    self.assertFalse(is_breaking(system, saying, run), (system, saying, run))
                    held += is_run(system, run)
        self.assertGreater(held, 200)

    def test_a_papers_of_what_is_broken_are_never_let_by(self):
        # A paper of a saying that holds, told of one that is broken.
        chance = chance_of(61)
        many = 0
        for _ in range(150):
            system, atoms, saying = some_case(chance)
            other = some_saying_over(chance, atoms, 3)
            words = [Ladder(system, one, rounds=5) for one in (saying, other)]
            if [one.word() for one in words] == ["holds", "broken"]:
                self.assertFalse(is_joined(system, other, words[0].paper()))
                many += 1
        self.assertGreater(many, 15)

    def test_c_judge_and_machine_agree(self):
        chance = chance_of(62)
        for system, run in some_real_runs(chance, 80):
            atoms = atoms_over(system) + [("wish", least(chance.randint(-2, 2), x=sign)) for sign in (1, -1)]
            saying = some_saying_over(chance, atoms, 4)
            row = letters_of(system, run, atoms_of(saying))
            self.assertEqual(takes(machine_of(saying), row), not holds(saying, row))

    def test_d_what_holds_below_holds_above(self):
        chance = chance_of(63)
        many = 0
        for _ in range(80):
            system, atoms, saying = some_case(chance)
            rung = chance.choice((unasked.unasked, together.together))(system, saying)
            below = Ladder(rung[2], rungs.led_saying(rung, saying), rungs=(), rounds=5)
            if below.word() == "holds":
                self.assertTrue(is_joined(system, saying, joining.joined_up(rung, saying, below.paper())))
                many += 1
                for run in runs_of(chance, system, 10):
                    self.assertFalse(is_breaking(system, saying, run))
            elif below.word() == "broken" and rung[0] == "same":
                self.assertNotEqual(Ladder(system, saying, rungs=(), rounds=5).word(), "holds")
        self.assertGreater(many, 20)

    def test_g_of_what_holds_no_watcher_says_no(self):
        chance = chance_of(64)
        many = 0
        for _ in range(120):
            system, atoms, saying = some_case(chance)
            one = Ladder(system, saying, rounds=5)
            if one.word() != "holds":
                continue
            other = some_saying_over(chance, atoms, 3)
            for run in runs_of(chance, system, 8):
                if is_run(system, run) and counts(system, run):
                    self.assertNotIn("no", watched(system, saying, run))
                    knows = Watcher(system, other, knowing=(saying, one.paper()))
                    plain = Watcher(system, other)
                    stem, lap = letters_of(system, run, knows.atoms())
                    for letter in stem + lap:
                        word = knows.tell(letter)
                        told = plain.tell(letter[:len(plain.atoms())])
                        self.assertIn(told, ("open", word))
                    many += 1
        self.assertGreater(many, 30)

    def test_i_houses_called_otherwise(self):
        chance = chance_of(65)
        same = 0
        for _ in range(50):
            system, atoms, saying = some_case(chance)
            order = list(range(len(system[2])))
            chance.shuffle(order)
            houses = [House(system), House(system_called(system, order))]
            houses[0].put("s", saying)
            houses[1].put("t", saying_called(saying))
            words = sorted([houses[0].word("s"), houses[1].word("t")])
            self.assertNotEqual(words, ["broken", "holds"])
            same += words[0] == words[1]
            for house in houses:
                house.begins(())
            words = sorted([houses[0].word("s"), houses[1].word("t")])
            self.assertNotEqual(words, ["broken", "holds"])
        self.assertGreater(same, 40)

    def test_j_what_is_written_is_read_back(self):
        chance = chance_of(66)
        for _ in range(60):
            system, atoms, saying = some_case(chance)
            self.assertEqual(texts.read_system(texts.show_system(system)), system)
            self.assertEqual(texts.read_saying(texts.show_saying(saying)), saying)
            run = Ladder(system, saying, rounds=3).run()
            if run is not None:
                self.assertEqual(texts.read_run(texts.show_run(run)), run)

    def test_asked_twice_alike_is_told_alike(self):
        chance = chance_of(67)
        for _ in range(30):
            system, atoms, saying = some_case(chance)
            one, other = (Ladder(system, saying, rounds=4) for _ in range(2))
            for asked in ("word", "gone", "wishes", "ranks", "rungs", "paper", "run"):
                self.assertEqual(getattr(one, asked)(), getattr(other, asked)())
            run = (tuple((box, (0, 1)) for box in system[0]), [], [rest_of(system)])
            self.assertEqual(is_run(system, run), is_run(system, run))
            self.assertEqual(move("rest", None)[0], REST)


if __name__ == "__main__":
    unittest.main()
