import unittest

from glassladder.desk import Desk
from glassladder.errors import (
    GlassError, NoChange, NoLine, NoMachine, NoName, NoSaying, NoSystem, NoText, TooMany,
)
from glassladder.house import House
from glassladder.texts import read_run, read_saying, read_system, show_run, show_saying, show_system
from tests.machines import some_system
from tests.papers import atoms_over, some_saying_over
from tests.samples import anything_but, chance_of, least, line

DOWN = "boxes x; begin 0+1*x>=0; machine m a b; row a down b -1+1*x>=0 x:-1+1*x; row b down a - -; fair"
BARE = "boxes; machine m a; fair"
FALLS = "not always ever deed down"
STAYS = "always wish 0+1*x>=0"


class Case(unittest.TestCase):
    def setUp(self):
        self.desk = Desk()

    def say(self, *rows):
        for row in rows:
            self.assertEqual(self.desk.say(row), "ok", row)

    def state(self, desk=None):
        """All that a desk tells."""
        desk = desk or self.desk
        names = desk.say("names")
        told = [names, len(desk)]
        for name in names.split() if names != "-" else []:
            sayings = desk.say("sayings " + name)
            told += [desk.say("show " + name), sayings]
            for saying in sayings.split() if sayings != "-" else []:
                told += [desk.say(f"{word} {name} {saying}") for word in ("word", "way", "run", "paper", "asks")]
        return told

    def refuses(self, error, row):
        before = self.state()
        with self.assertRaises(error) as caught:
            self.desk.say(row)
        self.assertEqual(self.state(), before, row)
        return caught.exception


class Rows(Case):
    def test_names_and_systems(self):
        self.assertEqual((self.desk.say("names"), len(self.desk)), ("-", 0))
        self.say("system two " + BARE, "system one " + DOWN)
        self.assertEqual((self.desk.say(row="names"), len(self.desk)), ("one two", 2))
        self.assertEqual((self.desk.say("show one"), self.desk.say("show two")), (DOWN, BARE))
        self.say("drop two")
        self.assertEqual((self.desk.say("names"), len(self.desk)), ("one", 1))
        self.say("system rest " + BARE)
        self.assertEqual(self.desk.say("names"), "one rest")

    def test_in_the_stead_of_one(self):
        self.say("system h " + DOWN, "put h s " + FALLS)
        self.refuses(NoText, "system h boxes")
        self.say("system h " + BARE)
        self.assertEqual((self.desk.say("show h"), self.desk.say("sayings h"), len(self.desk)), (BARE, "-", 1))
        self.refuses(NoChange, "back h 1")

    def test_sayings(self):
        self.say("system h " + DOWN, "put h s " + FALLS, "put h a " + STAYS)
        self.assertEqual(self.desk.say("sayings h"), "a s")
        self.assertEqual(self.desk.say("word h s"), "holds")
        self.assertEqual((self.desk.say("word h a"), self.desk.say("way h a"), self.desk.say("way h s")),
                         ("holds", "searched", "stayed"))
        self.assertEqual((self.desk.say("run h s"), self.desk.say("asks h s")), ("-", "0"))
        self.say("less h s")
        self.assertEqual(self.desk.say("sayings h"), "a")
        self.say("less h a")
        self.assertEqual(self.desk.say("sayings h"), "-")

    def test_rows_begins_and_back(self):
        self.say("system h " + DOWN, "put h s " + FALLS, "put h a " + STAYS)
        before = self.state()
        house = House(read_system(DOWN.replace("; ", "\n")))
        house.put("s", read_saying(FALLS))
        house.put("a", read_saying(STAYS))
        self.assertEqual(self.desk.say("paper h a"), str(len(house.paper("a")[0])))
        # The row with number 1 of the machine with number 0.
        self.say("row h 0 1 b down a - x:2+1*x")
        house.other_row(0, 1, ("b", "down", (), (("x", line(2, x=1)),), "a"))
        self.assertEqual(self.desk.say("show h"), show_system(house.system()).replace("\n", "; "))
        for name in ("s", "a"):
            self.assertEqual(self.desk.say(f"word h {name}"), house.word(name))
            self.assertEqual(self.desk.say(f"way h {name}"), house.way(name))
            self.assertEqual(self.desk.say(f"asks h {name}"), str(len(house.asks(name))))
        self.assertEqual(self.desk.say("word h s"), "broken")
        self.assertEqual(self.desk.say("paper h s"), "-")
        run = self.desk.say("run h s")
        self.assertEqual(run, show_run(house.run("s")).replace("\n", "; "))
        self.assertEqual(read_run(run.replace("; ", "\n")), house.run("s"))
        self.assertNotEqual(self.desk.say("asks h a"), "0")
        self.say("begins h 0+1*x>=0;1>0")
        self.assertEqual(self.desk.say("way h s"), "replayed")
        self.say("begins h -")
        self.assertIn("boxes x; machine", self.desk.say("show h"))
        self.say("back h 3")
        self.assertEqual(self.state(), before)

    def test_the_machines_number_stands_ahead_of_the_rows(self):
        two = "boxes; machine m a; row a go a - -; machine n b; row b come b - -; row b stay b - -; fair"
        self.say("system h " + two, "row h 1 0 b turn b - -")
        self.assertEqual(self.desk.say("show h"), two.replace("come", "turn"))
        self.refuses(NoMachine, "row h 0 1 a turn a - -")
        self.say("row h 1 1 b less b - -")

    def test_show_answers_what_system_takes(self):
        chance = chance_of(50)
        for at in range(60):
            system = some_system(chance)
            text = show_system(system).replace("\n", "; ")
            self.say("system one " + text)
            self.assertEqual(self.desk.say("show one"), text)
            self.say("system two " + self.desk.say("show one"))
            self.assertEqual(self.desk.say("show two"), text)
            saying = some_saying_over(chance, atoms_over(system), 2)
            self.say("put one s " + show_saying(saying))
            self.assertEqual(self.desk.say("sayings one"), "s")

    def test_two_desks_have_nothing_in_common(self):
        other = Desk()
        self.say("system h " + DOWN)
        self.assertEqual((other.say("names"), len(other)), ("-", 0))
        other.say("system h " + BARE)
        self.assertEqual(self.desk.say("show h"), DOWN)


class Refusals(Case):
    def test_no_line(self):
        self.say("system h " + DOWN, "put h s " + FALLS)
        rows = (
            "", " ", "name", "Names", "names ", " names", "names h", "names -", "system", "system h",
            "system H " + BARE,
            "system  " + BARE, "system h1 " + BARE, "system abcdefghi " + BARE, " system h " + BARE, "drop", "drop ",
            "drop H",
            "drop h ", "drop h h", "drop  h", "show", "show h s", "put", "put h", "put h s", "put h S yes",
            "put h  yes",
            "put  s yes", "put H s yes", "less h", "less h s s", "less h  s", "less h s ", "row h 0 0 a down b -",
            "row h 0 0 a down b - - -", "row h 0 a down b - -", "row h 00 0 a down b - -", "row h 0 01 a down b - -",
            "row h 0 1000 a down b - -", "row h -1 0 a down b - -", "row h 0 0  down b - -", "row h 0 0 a  down b - -",
            "row h x 0 a down b - -", "row h 0 0 a down b - ", "row h 0 0 a down b  -", "row H 0 0 a down b - -",
            "begins h", "begins h ", "begins h - -", "begins h  -", "begins H -", "back h", "back h ", "back h 1 1",
            "back h x",
            "back h 01", "back h 1000", "back h -1", "back h +1", "back h 1/2", "sayings", "sayings h s", "word h",
            "word h s s",
            "word h S", "way h", "way s", "run h", "run h s ", "paper h", "asks h", "asks  h s", "yes", "boxes",
            "ok", "names\n",
            "system h boxes\nmachine m a\nfair", "put h s\nyes", "show\nh", "names\tnames", "NAMES", "together h",
            "twin h",
        )
        for row in rows:
            self.refuses(NoLine, row)
        for thing in anything_but():
            self.refuses(NoLine, thing)
        self.refuses(NoLine, ["names"])
        self.refuses(NoLine, b"names")

    def test_no_name(self):
        self.say("system h " + DOWN, "put h s " + FALLS)
        for row in ("drop g", "show g", "put g s nonsense", "put g s ", "less g s", "row g 9 9 A b c d e",
                    "begins g nonsense",
                    "back g 0", "sayings g", "word g s", "way g s", "run g s", "paper g s", "asks g s", "drop rest"):
            self.refuses(NoName, row)
        for row in ("less h t", "word h t", "way h t", "run h t", "paper h t", "asks h h"):
            self.refuses(NoName, row)

    def test_no_text(self):
        self.say("system h " + DOWN, "put h s " + FALLS)
        for row, number in (
            ("system g ", 0), ("system g  ", 0), ("system g boxes", None), ("system g boxes; machine m a", None),
            ("system g boxes;machine m a; fair", 0), ("system g boxes;  machine m a; fair", 1),
            ("system h boxes; nonsense", 1),
            ("system g boxes; machine m a; fair; ", 3), ("system g boxes; fair; machine m A", 2), ("system g fair", 0),
            ("system g boxes; fair", None), ("system g boxes; machine m a; row a rest a - -; fair", None),
            ("put h s ", 0), ("put h s nonsense", 0), ("put h s yes yes", 0), ("put h s yes ", 0), ("put h s  yes", 0),
            ("put h s yes; yes", 1), ("put h s not not not not not not yes", None), ("put h t wish 0+1*x=0", None),
            ("row h 0 0 A down b - -", 0), ("row h 0 0 a Down b - -", 0), ("row h 0 0 a down 9 - -", 0),
            ("row h 0 0 a down b 0 -", 0), ("row h 0 0 a down b - x", 0), ("row h 9 9 a down b - x:0;", 0),
            ("row h 0 0 a down abcdefghi - -", 0), ("begins h 0", 0), ("begins h 0>=0;", 0), ("begins h x", 0),
            ("begins h -;-", 0), ("begins h 2/4>=0", 0),
        ):
            self.assertEqual(self.refuses(NoText, row).row, number, row)

    def test_as_a_house_refuses(self):
        self.say("system h " + DOWN, "put h s " + FALLS)
        self.refuses(NoSaying, "put h t deed up")
        self.refuses(NoSaying, "put h t place m c")
        self.refuses(NoSaying, "put h t wish 0+1*y>=0")
        for row in ("row h 1 0 a down b - -", "row h 0 2 a down b - -", "row h 999 0 a down b - -"):
            self.refuses(NoMachine, row)
        for row in ("row h 0 0 a rest b - -", "row h 0 0 rest down b - -", "row h 0 0 a down rest - -",
                    "row h 0 0 a down c - -", "row h 0 0 a down b 0+1*y>=0 -", "row h 0 0 a down b - x:0;x:0"):
            self.assertEqual(self.refuses(NoSystem, row).part, "machines")
        self.assertEqual(self.refuses(NoSystem, "begins h 0+1*y>=0").part, "begins")
        self.assertEqual(self.refuses(NoSystem, "begins h " + ";".join(["0>=0"] * 9)).part, "begins")
        self.say("row h 0 1 b up a - -")
        self.refuses(NoSaying, "row h 0 0 a up b - -")
        for row in ("back h 0", "back h 3", "back h 999"):
            self.refuses(NoChange, row)
        self.say("put h t yes", "put h u yes", "put h v yes")
        self.assertEqual(self.refuses(TooMany, "put h w yes").many, 5)
        self.refuses(NoSaying, "put h w deed left")
        self.say("put h v not yes", "back h 6")
        self.refuses(NoChange, "back h 1")
        self.assertEqual(self.desk.say("sayings h"), "-")

    def test_a_ninth_name(self):
        for name in "abcdefgh":
            self.say(f"system {name} {BARE}")
        self.assertEqual(self.refuses(TooMany, "system i " + BARE).many, 9)
        # Last: a text that writes none goes first.
        self.assertEqual(self.refuses(NoText, "system i boxes").row, None)
        self.refuses(NoLine, "system i")
        self.say("system a " + DOWN, "drop b", "system i " + BARE)
        self.assertEqual((self.desk.say("names"), len(self.desk)), ("a c d e f g h i", 8))

    def test_deeds_one_by_one_as_a_house(self):
        # Whatever is told: a house of its own, told the same, answers the same.
        chance = chance_of(51)
        self.say("system h " + DOWN)
        house = House(read_system(DOWN.replace("; ", "\n")))
        wishes = ("-", "0+1*x>=0", "-3+1*x>=0;5-1*x>0", "1-1*x>=0")
        for _ in range(60):
            name = chance.choice("abcde")
            rows = {
                "put": chance.choice((FALLS, STAYS, "ever place m b", "always ever deed down", "deed up")),
                "less": "", "begins": chance.choice(wishes), "back": str(chance.randint(0, 3)),
                "row": f"0 {chance.randint(0, 2)} {chance.choice('ab')} down {chance.choice('ab')} - "
                       + chance.choice(("-", "x:0+1*x", "x:-1+1*x", "x:?")),
            }
            word = chance.choice(("put", "put", "less", "begins", "back", "row", "row"))
            row = " ".join([one for one in (word, "h", name if word in ("put", "less") else "", rows[word]) if one])
            told = [house_deed(house, word, name, rows[word]), None]
            try:
                self.desk.say(row)
            except (GlassError, NoName, NoMachine, TooMany) as error:
                told[1] = type(error)
            self.assertEqual(told[0], told[1], row)
            self.assertEqual(self.desk.say("show h"), show_system(house.system()).replace("\n", "; "))
            for saying in house.sayings():
                self.assertEqual(self.desk.say(f"word h {saying}"), house.word(saying))
                self.assertEqual(self.desk.say(f"way h {saying}"), house.way(saying))
                paper = house.paper(saying)
                self.assertEqual(self.desk.say(f"paper h {saying}"), "-" if paper is None else str(len(paper[0])))
                self.assertEqual(self.desk.say(f"asks h {saying}"), str(len(house.asks(saying))))


def house_deed(house, word, name, text):
    """Does a deed to a house; told is the kind of error with which it is refused, or None."""
    try:
        if word == "put":
            house.put(name, read_saying(text))
        elif word == "less":
            house.drop(name)
        elif word == "back":
            house.back(many=int(text))
        elif word == "begins":
            told = {"-": (), "0+1*x>=0": (least(0, x=1),), "1-1*x>=0": (least(1, x=-1),)}
            house.begins(told.get(text, (least(-3, x=1), ("above", line(5, x=-1)))))
        else:
            at, number, ahead, deed, to, wishes, sets = text.split()
            lines = {"x:0+1*x": line(0, x=1), "x:-1+1*x": line(-1, x=1), "x:?": None}
            house.other_row(int(at), int(number), (ahead, deed, (), (("x", lines[sets]),) if sets != "-" else (), to))
    except (GlassError, NoName, NoMachine, TooMany) as error:
        return type(error)
    return None


if __name__ == "__main__":
    unittest.main()
