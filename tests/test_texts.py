import copy
import unittest
from fractions import Fraction

from glassladder.errors import NoText
from glassladder.ladder import Ladder
from glassladder.texts import (
    read_line, read_run, read_saying, read_system, read_wish, show_run, show_saying, show_system,
)
from glassladder.wordtexts import show_line, show_wish
from tests import readers
from tests.machines import BARE, SYSTEM, some_system, with_part
from tests.papers import atoms_over, some_saying_over
from tests.runs import move, some_drifting_system, some_real_runs, some_run
from tests.samples import above, anything_but, as_share, chance_of, just, least, line, some_wishes

TEXT = """boxes x y
begin 0+1*x>=0
begin -1/2+1*x-2/3*y=0
machine m a b
row a down b -1+1*x>=0;0+1*y>0 x:-1+1*x;y:?
row b up a - -
machine n c
row c down c - -
fair down up"""
RUN = """numbers x=0 y=-1/2
stem rest -,- -
stem ask 0,- x=1,0;y=-1/3,0
lap down 2,10 x=3/2,-1
lap rest -,- -"""


class Case(unittest.TestCase):
    def refused(self, reader, text, row):
        with self.assertRaises(NoText) as caught:
            reader(text)
        self.assertEqual(caught.exception.row, row, text)

    def as_patterns_tell(self, reader, text):
        """Holds what is read against what patterns tell; told is the row, or "read"."""
        try:
            told = getattr(readers, reader.__name__)(text)
        except readers.Refused as refused:
            self.refused(reader, text, refused.row)
            return refused.row
        self.assertEqual(reader(text), told, text)
        return "read"


class Lines(Case):
    def test_shown(self):
        for one, text in ((line(), "0"), (line(-3), "-3"), (line("1/2"), "1/2"), (line("-7/3"), "-7/3"),
                          (line(0, x=1), "0+1*x"), (line(2, x=-1, box="1/2"), "2+1/2*box-1*x"),
                          (line("-1/2", abcdefgh="-3/4", b=5), "-1/2-3/4*abcdefgh+5*b"),
                          (line(10, rest=100), "10+100*rest")):
            self.assertEqual(show_line(one), text)
            self.assertEqual(show_line(line=one), text)
            self.assertEqual(read_line(text), one)
            self.assertEqual(read_line(text=text), one)
        for wish, text in ((least(0, x=1), "0+1*x>=0"), (above(-1), "-1>0"), (just("1/3", y=-2), "1/3-2*y=0")):
            self.assertEqual(show_wish(wish=wish), text)
            self.assertEqual(read_wish(text=text), wish)

    def test_refused(self):
        for text in ("", " ", "x", "+1", "01", "-0", "00", "1/1", "2/4", "1/0", "0/2", "1/-2", "-1/02", "1.5", "1+x",
                     "1+*x", "1+1x", "1+1*", "1+1*X", "1+0*x", "1-0*x", "1+-1*x", "1--1*x", "1+1*y+1*x", "1+1*x+1*x",
                     "1*x",
                     "+1*x", "1 +1*x", "1+1*x ", " 1", "1+2/4*x", "1+01*x", "1+1*abcdefghi", "1+1*x+", "1/", "/2", "-",
                     "--1", "1+1*x>=0", "1+1**x", "1+1*x*y", "1_0", "1+1*x1", "0+1*x'"):
            self.refused(read_line, text, 0)
            self.refused(read_wish, text + ">=0", 0)
            self.refused(read_line, text + "\n1", 0)
        for text in ("0", "0>", "0=", "0>=", "0>=1", "0=>0", "0==0", "0<0", "0>=0>=0", "0 >=0", "0>= 0",
                     ">=0", "0>=0;0>=0", "0>=00", "0>00", "0>=0 ", "least 0"):
            self.refused(read_wish, text, 0)
        for reader in (read_line, read_wish):
            for thing in anything_but("x", "a"):
                self.refused(reader, thing, 0)

    def test_further_rows(self):
        for more in ("\n", "\n0", "\nx", "\n0\n0", "\n\n"):
            self.refused(read_line, "0+1*x" + more, 1)
            self.refused(read_wish, "0+1*x>0" + more, 1)
            self.refused(read_saying, "yes" + more, 1)
            self.refused(read_saying, "not not not not not not not yes" + more, 1)
            self.refused(read_line, "0+1*" + more, 0)
            self.refused(read_wish, "0+1*x" + more, 0)
            self.refused(read_saying, "yes yes" + more, 0)

    def test_by_chance(self):
        chance = chance_of(44)
        for wish in some_wishes(chance, 200, ["x", "y", "abc", "z"], most=60):
            self.assertEqual(read_wish(show_wish(wish)), wish)
            self.assertEqual(readers.read_wish(show_wish(wish)), wish)
            self.assertEqual(read_line(show_line(wish[1])), wish[1])
            text = list(show_wish(wish))
            for _ in range(6):
                other = list(text)
                at = chance.randrange(len(other))
                signs = ("", "-", "+", "0", "1", "/", "*", "x", "=", ">", " ", "\n")
                other[at:at + chance.randint(0, 1)] = chance.choice(signs)
                self.as_patterns_tell(read_wish, "".join(other))
                self.as_patterns_tell(read_line, "".join(other)[:-3])

    def test_great_numbers(self):
        great = 10 ** 99 + 7
        for one in (line(great), line(-great, x=Fraction(1, great)), line(Fraction(-great, 2), x=Fraction(great, 3))):
            self.assertEqual(read_line(show_line(one)), one)
        greater = (10 ** 3999 + 1, 10 ** 3998)
        self.assertEqual(read_line(show_line((greater, ()))), (greater, ()))


class Systems(Case):
    def test_shown(self):
        system = (("x", "y"), (least(0, x=1), just("-1/2", x=1, y="-2/3")), (
            ("m", ("a", "b"), (
                ("a", "down", (least(-1, x=1), above(0, y=1)), (("x", line(-1, x=1)), ("y", None)), "b"),
                ("b", "up", (), (), "a"))),
            ("n", ("c",), (("c", "down", (), (), "c"),))), ("down", "up"))
        self.assertEqual(show_system(system), TEXT)
        self.assertEqual(read_system(TEXT), system)
        self.assertEqual(read_system(text=show_system(system=system)), system)

    def test_without_anything(self):
        self.assertEqual(show_system(BARE), "boxes\nmachine idle here\nfair")
        self.assertEqual(read_system("boxes\nmachine idle here\nfair"), BARE)

    def test_back_by_chance(self):
        chance = chance_of(45)
        for _ in range(150):
            system = some_system(chance) if chance.random() < 0.7 else some_drifting_system(chance)
            self.assertEqual(read_system(show_system(system)), system)
            self.assertEqual(readers.read_system(show_system(system)), system)
        self.assertEqual(read_system(show_system(SYSTEM)), SYSTEM)

    def test_rows_that_are_none(self):
        rows = TEXT.split("\n")
        wrong = (
            "", " ", "boxes  x", "boxes x ", " boxes x", "boxes X", "boxes abcdefghi", "boxes 1", "box x", "begin",
            "begin 0", "begin 0>=0 0>=0", "begin 0>=0;0>=0", "begin -", "begin 1+2/4*x>=0", "begin 0+1*y+1*x>=0",
            "machine", "machine ", "machine M a", "machine m A", "machine m  a", "row", "row a go b -",
            "row a go b - - -", "row a go B - -",
            "row a go b 0 -", "row a go b - x", "row a go b - x:", "row a go b - :0", "row a go b - x:??",
            "row a go b - x:0;",
            "row a go b 0>=0; -", "row a go b ;0>=0 -", "row a go b -;- -", "row a go b - X:0", "row a go b - x:0:0",
            "row a go b - x:0+1*y+1*x", "row a go b x:0 -", "row a  go b - -", "row a go b - - ", "fair x ", "fair  x",
            "fair X", "numbers", "lap", "boxes\tx",
        )
        for one in wrong:
            for at in range(len(rows) + 1):
                text = "\n".join(rows[:at] + [one] + rows[at:])
                self.refused(read_system, text, at)
                self.assertEqual(self.as_patterns_tell(read_system, text), at)
            for at in range(len(rows)):
                self.assertEqual(self.as_patterns_tell(read_system, "\n".join(rows[:at] + [one] + rows[at + 1:])), at)

    def test_rows_that_cannot_stand_there(self):
        rows = TEXT.split("\n")
        self.refused(read_system, "", 0)
        self.refused(read_system, "\n".join(rows[1:]), 0)
        self.refused(read_system, "\n".join(rows[:1] + rows), 1)
        self.refused(read_system, "\n".join(rows + ["fair"]), len(rows))
        self.refused(read_system, TEXT + "\n", len(rows))
        self.refused(read_system, "boxes\nrow a go a - -\nmachine m a\nfair", 1)
        self.refused(read_system, "boxes\nmachine m a\nbegin 0>=0\nfair", 2)
        self.refused(read_system, "boxes\nfair\nmachine m a", 2)
        self.refused(read_system, "boxes\nfair\nmachine m A", 2)
        self.refused(read_system, "machine m a\nfair", 0)
        self.refused(read_system, "fair", 0)
        # The first of two.
        self.refused(read_system, "boxes\nmachine m a\nboxes\nbegin", 2)
        self.refused(read_system, "boxes\nbegin\nboxes", 1)

    def test_nothing_comes_of_it(self):
        rows = TEXT.split("\n")
        self.refused(read_system, "\n".join(rows[:-1]), None)
        self.refused(read_system, "boxes", None)
        self.refused(read_system, "boxes\nfair", None)
        for text in (
            "boxes\nmachine m\nfair", "boxes y x\nmachine m a\nfair", "boxes x x\nmachine m a\nfair",
            "boxes a b c d e\nmachine m a\nfair", "boxes rest\nmachine m a\nfair", "boxes\nmachine rest a\nfair",
            "boxes\nmachine m rest\nfair", "boxes\nmachine m a a\nfair", "boxes\nmachine m a\nmachine m a\nfair",
            "boxes\nmachine m a b c d e f g\nfair", "boxes\nmachine m a\nrow a rest a - -\nfair",
            "boxes\nmachine m a\nrow a go b - -\nfair", "boxes\nmachine m a\nrow b go a - -\nfair",
            "boxes\nmachine m a\nrow a go a 0+1*x>=0 -\nfair", "boxes\nmachine m a\nrow a go a - x:0\nfair",
            "boxes\nbegin 0+1*x>=0\nmachine m a\nfair", "boxes\nmachine m a\nfair go",
            "boxes x y\nmachine m a\nrow a go a - y:0;x:0\nfair", "boxes x\nmachine m a\nrow a go a - x:0;x:0\nfair",
            "boxes\nmachine m a\nrow a go a - -\nrow a come a - -\nfair go come",
            "boxes\nmachine m a\nrow a go a - -\nfair go go", "boxes\nmachine m a\nfair rest",
            "boxes\n" + "begin 0>=0\n" * 9 + "machine m a\nfair",
            "boxes\nmachine m a\n" + "row a go a - -\n" * 9 + "fair",
            "boxes\n" + "".join(f"machine {name} a\n" for name in "mnopq") + "fair",
            "boxes\nmachine m a\nrow a go a " + ";".join(["0>=0"] * 7) + " -\nfair",
            "boxes x\nmachine m a\nrow a go a - x:0\nmachine n a\nrow a go a - x:0\nfair",
        ):
            self.refused(read_system, text, None)
            self.assertIsNone(self.as_patterns_tell(read_system, text))
        # Without fair its last row isn't taken for it.
        self.refused(read_system, "boxes\nmachine m p\nrow p a p - -\nrow p b p - -\nmachine a b", None)
        # At the bounds a system comes of it.
        read_system("boxes\n" + "begin 0>=0\n" * 8 + "machine m a b c d e f\n" + "row a go a - -\n" * 8 + "fair go")

    def test_no_text(self):
        for thing in anything_but():
            self.refused(read_system, thing, 0)
            self.refused(read_saying, thing, 0) if thing != "yes" else self.assertEqual(read_saying(thing), ("yes",))
            self.refused(read_run, thing, 0)

    def test_changed_by_chance(self):
        chance = chance_of(46)
        seen = {}
        for _ in range(500):
            text = TEXT if chance.random() < 0.3 else show_system(some_system(chance))
            rows = text.split("\n")
            for _ in range(chance.randint(1, 2)):
                rows = changed(chance, rows)
            row = self.as_patterns_tell(read_system, "\n".join(rows))
            key = row if row in ("read", None, 0) else 1
            seen[key] = seen.get(key, 0) + 1
        self.assertGreater(min(seen.values()), 10, seen)
        self.assertEqual(len(seen), 4)


def changed(chance, rows):
    """Rows of words with one change: a row or a word left out, put in, exchanged, or a sign."""
    rows = list(rows) or [""]
    at = chance.randrange(len(rows))
    kind = chance.randrange(8)
    if kind == 0:
        del rows[at]
    elif kind == 1:
        rows.insert(at, chance.choice(rows))
    elif kind == 2:
        other = chance.randrange(len(rows))
        rows[at], rows[other] = rows[other], rows[at]
    else:
        words = rows[at].split(" ")
        here = chance.randrange(len(words))
        if kind == 3:
            del words[here]
        elif kind == 4:
            words.insert(here, chance.choice(words))
        elif kind == 5:
            words = words[::-1] if chance.random() < 0.5 else words[1:] + words[:1]
        elif kind == 6:
            words[here] = chance.choice(("", "rest", "-", "x", "0+1*x>=0", "0", "boxes", "a;b", "1/2", "0,-"))
        else:
            signs = list(words[here]) or [""]
            spot = chance.randrange(len(signs))
            others = ("a", "0", "-", ";", ":", "=", ",", " ", "A", "/", "*")
            signs[spot:spot + chance.randint(0, 1)] = chance.choice(others)
            words[here] = "".join(signs)
        rows[at] = " ".join(words)
    return rows or [""]


class Sayings(Case):
    def test_shown(self):
        wish = ("wish", least(0, x=1))
        for saying, text in (
            (("yes",), "yes"), (("place", "m", "a"), "place m a"), (("deed", "rest"), "deed rest"),
            (wish, "wish 0+1*x>=0"),
            (("until", ("place", "m", "a"), wish), "until place m a wish 0+1*x>=0"),
            (("and", ("or", ("yes",), ("not", ("yes",))), ("ever", ("deed", "go"))), "and or yes not yes ever deed go"),
            (("always", ("place", "not", "ever")), "always place not ever"),
            (("and", ("deed", "and"), ("deed", "yes")), "and deed and deed yes"),
        ):
            self.assertEqual(show_saying(saying=saying), text)
            self.assertEqual(read_saying(text=text), saying)

    def test_depths(self):
        deep = ("not", ("not", ("not", ("not", ("not", ("yes",))))))
        self.assertEqual(read_saying("not not not not not yes"), deep)
        self.refused(read_saying, "not not not not not not yes", None)
        self.refused(read_saying, "or yes not not not not not yes", None)
        self.assertEqual(read_saying("or yes not not not not yes")[0], "or")
        self.refused(read_saying, "not " * 2000 + "yes", None)
        self.refused(read_saying, "not " * 2000, 0)
        self.refused(read_saying, "or " * 1000 + "yes " * 1000 + "yes", None)
        self.refused(read_saying, "or " * 1000 + "yes " * 999 + "yes", 0)

    def test_refused(self):
        for text in ("", " ", "no", "yes ", " yes", "yes yes", "not", "not  yes", "and yes", "and yes yes yes",
                     "place m",
                     "place m a b", "place", "place M a", "place m abcdefghi", "deed", "deed Go", "wish", "wish 0",
                     "wish 0>=0 yes", "wish 1+2/4*x>=0", "until yes", "ever", "always always", "Yes",
                     "not not not not not not not", "yes\tyes", "release yes yes", "deed go deed go"):
            self.refused(read_saying, text, 0)
            self.assertEqual(self.as_patterns_tell(read_saying, text), 0)
        # Of a `just` no saying comes, though the row is one by its form.
        self.refused(read_saying, "wish 0+1*x=0", None)
        self.refused(read_saying, "not wish 0=0", None)
        self.refused(read_saying, "not wish 0=0\n", 1)

    def test_by_chance(self):
        chance = chance_of(47)
        seen = {}
        for _ in range(300):
            system = some_system(chance)
            atoms = atoms_over(system) + [("yes",), ("wish", above(1, x="-1/2"))]
            saying = some_saying_over(chance, atoms, 6)
            self.assertEqual(read_saying(show_saying(saying)), saying)
            row = self.as_patterns_tell(read_saying, "\n".join(changed(chance, [show_saying(saying)])))
            row2 = self.as_patterns_tell(read_saying, "not " * chance.randint(0, 6) + show_saying(saying))
            seen[row] = seen.get(row, 0) + 1
            seen[row2] = seen.get(row2, 0) + 1
        self.assertGreater(min(seen[key] for key in ("read", None, 0)), 10, seen)


class Runs(Case):
    def test_shown(self):
        run = ((("x", (0, 1)), ("y", (-1, 2))), [
            (("rest", (None, None)), (), ()),
            (("ask", (0, None)), (("x", (1, 1)), ("y", (-1, 3))), (("x", (0, 1)), ("y", (0, 1))))], [
            (("down", (2, 10)), (("x", (3, 2)),), (("x", (-1, 1)),)), (("rest", (None, None)), (), ())])
        self.assertEqual(show_run(run=run), RUN)
        self.assertEqual(read_run(text=RUN), run)
        self.assertEqual(show_run(((), [], [(("rest", (None,)), (), ())])), "numbers\nlap rest - -")
        self.assertEqual(read_run("numbers\nlap rest - -"), ((), [], [(("rest", (None,)), (), ())]))

    def test_read_whatever_steps_shares_and_drifts_are(self):
        self.assertEqual(read_run("numbers rest=1\nstem rest 7,-,3 rest=0,5\nlap go 999999999999 -"),
                         ((("rest", (1, 1)),), [(("rest", (7, None, 3)), (("rest", (0, 1)),), (("rest", (5, 1)),))],
                          [(("go", (999999999999,)), (), ())]))

    def test_refused(self):
        rows = RUN.split("\n")
        wrong = ("", "numbers x", "numbers x=", "numbers x=1,2", "numbers x=01", "numbers X=1", "numbers  x=1",
                 "numbers x=1 ", "numbers x=1;y=2", "stem", "stem go 0", "stem go 0 - -", "stem Go 0 -", "stem go 00 -",
                 "stem go -1 -", "stem go 0, -", "stem go ,0 -", "stem go a -", "stem go 0;1 -", "stem go 0 x=1",
                 "stem go 0 x=1,", "stem go 0 x,1", "stem go 0 x=1,1,1", "stem go 0 x=1,1;", "stem go 0 =1,1",
                 "stem go 0 x=2/4,1", "lap", "lap go 0", "lap  go 0 -", "lap go 0 - ", "laps go 0 -", "stem go 0 -;-",
                 "boxes x")
        for one in wrong:
            for at in range(len(rows) + 1):
                text = "\n".join(rows[:at] + [one] + rows[at:])
                self.refused(read_run, text, at)
                self.assertEqual(self.as_patterns_tell(read_run, text), at)
        self.refused(read_run, "", 0)
        self.refused(read_run, "lap rest - -", 0)
        self.refused(read_run, RUN + "\nstem rest - -", len(rows))
        self.refused(read_run, "numbers\nnumbers\nlap rest - -", 1)
        self.refused(read_run, RUN + "\n", len(rows))

    def test_nothing_comes_of_it(self):
        for text in ("numbers", "numbers x=1", "numbers\nstem rest - -", "numbers y=1 x=1\nlap rest - -",
                     "numbers x=1 x=1\nlap rest - -", "numbers\nlap go 0 y=1,0;x=1,0", "numbers\nlap go 0 x=1,0;x=1,0",
                     "numbers\nstem go 0 y=1,0;x=1,0\nlap rest - -"):
            self.refused(read_run, text, None)
            self.assertIsNone(self.as_patterns_tell(read_run, text))

    def test_by_chance(self):
        chance = chance_of(48)
        seen = {}
        for _ in range(500):
            system = some_drifting_system(chance)
            run = some_run(chance, system)
            text = show_run(run)
            self.assertEqual(read_run(text), run)
            self.assertEqual(readers.read_run(text), run)
            row = self.as_patterns_tell(read_run, "\n".join(changed(chance, text.split("\n"))))
            key = row if row in ("read", None, 0) else 1
            seen[key] = seen.get(key, 0) + 1
        self.assertGreater(min(seen.values()), 5, seen)
        self.assertEqual(len(seen), 4)

    def test_runs_of_ladders(self):
        for system, run in some_real_runs(chance_of(49), 20):
            self.assertEqual(read_run(show_run(run)), run)
        ladder = Ladder(SYSTEM, ("ever", ("deed", "see")))
        if ladder.run():
            self.assertEqual(read_run(show_run(ladder.run())), ladder.run())

    def test_lists_are_new(self):
        first = read_run(RUN)
        kept = copy.deepcopy(first)
        first[1].clear()
        first[2].clear()
        self.assertEqual(read_run(RUN), kept)
        run = (((("x", as_share(1)),)), [], [move("go", 0)])
        before = copy.deepcopy(run)
        show_run(run)
        self.assertEqual(run, before)


class Whole(Case):
    def test_a_text_that_is_exchanged(self):
        # What one reader takes the others refuse.
        texts = {read_line: "0", read_wish: "0>=0", read_saying: "yes", read_system: "boxes\nmachine m a\nfair",
                 read_run: "numbers\nlap rest - -"}
        for reader in texts:
            for other, text in texts.items():
                if other != reader:
                    self.refused(reader, text, 0)

    def test_part_of_a_system_changed(self):
        self.assertEqual(read_system(show_system(with_part(SYSTEM, 3, ()))), with_part(SYSTEM, 3, ()))


if __name__ == "__main__":
    unittest.main()
