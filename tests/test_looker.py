import copy
import unittest

from glassladder.drifting import counts, is_run, letters_of
from glassladder.errors import NoSaying, NoSystem
from glassladder.joined import conditions
from glassladder.looker import is_asked_so, is_joined, is_why_so, look_at_joined
from glassladder.made import machine_of
from glassladder.rounds import holds
from glassladder.sayings import atoms_of
from glassladder.steps import can_stand
from tests.machines import SYSTEM, with_machine, with_part
from tests.papers import Table, all_places, atoms_over, rounds_of, some_saying_over, some_small_system, with_item
from tests.runs import some_drifting_system, some_run
from tests.samples import above, anything_but, chance_of, just, least, line

NONE, BARRED = ("none",), ("barred",)

# A door that is again and again pulled is again and again open.
DOOR = ((), (), (("door", ("shut", "ajar"), (("shut", "pull", (), (), "ajar"), ("ajar", "push", (), (), "shut"))),),
        ("pull", "push"))
OPEN = ("place", "door", "ajar")
AGAIN = ("always", ("ever", OPEN))
REST, PULL, PUSH = ("rest", (None,)), ("pull", (0,)), ("push", (1,))
# Stand 0 waits, by choice 0, till by choice 1 the door is never open any more; at stand 1 it never is.
DOOR_ENTRIES = [(("shut",), 0, ()), (("ajar",), 0, ()), (("shut",), 1, ()), (("ajar",), 1, ())]
DOOR_LEADS = [
    [(REST, 0, ("to", 0)), (REST, 1, ("to", 2)), (PULL, 0, ("to", 1)), (PULL, 1, ("to", 3))],
    [(REST, 0, ("to", 1)), (PUSH, 0, ("to", 0))],
    [(REST, 0, ("to", 2)), (PULL, 0, ("to", 3))],
    [],
]
DOOR_WHY = ("parts", (((0, 1), ("lot", 0)), ((2,), ("lot", 1)), ((3,), NONE)))
DOOR_PAPER = (DOOR_ENTRIES, ("to", 0), DOOR_LEADS, DOOR_WHY)
# The same with None for any place: never open, it may be pulled, but not pushed.
ANY_PAPER = (
    [((None,), 0, ()), ((None,), 1, ())], ("to", 0),
    [[(REST, 0, ("to", 0)), (REST, 1, ("to", 1)), (PULL, 0, ("to", 0)), (PULL, 1, ("to", 1)), (PUSH, 0, ("to", 0))],
     [(REST, 0, ("to", 1)), (PULL, 0, ("to", 1))]],
    ("parts", (((0,), ("lot", 0)), ((1,), ("lot", 2)))),
)

# A box that is counted up from nought or more stays so.
UP = ("up", (0,))
COUNTER = (("x",), (least(0, x=1),), (("m", ("a",), (("a", "up", (), (("x", line(1, x=1)),), "a"),)),), ())
X = least(0, x=1)
STAYS = ("always", ("wish", X))
UP_PAPER = ([(("a",), 0, (X,))], ("to", 0), [[(REST, 0, ("to", 0)), (UP, 0, ("to", 0))]], ("lot", 0))

# A box that is counted down can't be so again and again: at stand 1 `down` is waited for.
DOWN = ("down", (0,))


def down_system(wish=least(-1, x=1), to=line(-1, x=1), begins=()):
    return (("x",), begins, (("m", ("a",), (("a", "down", (wish,), (("x", to),), "a"),)),), ())


FALLS = ("not", ("always", ("ever", ("deed", "down"))))
DOWN_LEADS = [(REST, 0, ("to", 1)), (DOWN, 0, ("to", 1)), (DOWN, 1, ("to", 0))]


def down_paper(first=line(0, x=1), second=line(0, x=1), why=("lot", 0)):
    return ([(("a",), 0, ()), (("a",), 1, ())], ("to", 0), [list(DOWN_LEADS), list(DOWN_LEADS)],
            ("rank", (first, second), why))


# What is read is less than what was there ahead, or nothing goes on: y keeps that.
LESS = least(-1, x=-1, y=1)
ASKED = (("x", "y"), (), (("m", ("a", "b"), (
    ("a", "ask", (least(0, x=1),), (("x", None), ("y", line(0, x=1))), "b"),
    ("b", "less", (LESS,), (), "a"),
)),), ())
NOT_AGAIN = ("not", ("always", ("ever", ("deed", "ask"))))


class Joined(unittest.TestCase):
    def so(self, system, saying, paper):
        before = copy.deepcopy(paper)
        self.assertIsNone(look_at_joined(system, saying, paper))
        self.assertIs(is_joined(system, saying, paper), True)
        self.assertIs(is_why_so(system, saying, paper), True)
        self.assertEqual(paper, before)

    def wrong(self, system, saying, paper, ask):
        before = repr(paper)
        self.assertEqual(look_at_joined(system, saying, paper), ask)
        self.assertIs(is_joined(system, saying, paper), False)
        self.assertEqual(repr(paper), before)


class LetBy(Joined):
    def test_without_boxes(self):
        self.so(DOOR, AGAIN, DOOR_PAPER)
        self.assertIsNone(look_at_joined(thing=DOOR_PAPER, saying=AGAIN, system=DOOR))
        self.assertIs(is_joined(thing=DOOR_PAPER, saying=AGAIN, system=DOOR), True)

    def test_any_place(self):
        self.so(DOOR, AGAIN, ANY_PAPER)

    def test_begin_leads_to_an_entry_for_any_place(self):
        entries = [((None,), 0, ())] + DOOR_ENTRIES[1:]
        leads = [DOOR_LEADS[0] + [(PUSH, 0, ("to", 0))]] + DOOR_LEADS[1:]
        self.so(DOOR, AGAIN, (entries, ("to", 0), leads, DOOR_WHY))

    def test_with_boxes_that_are_set(self):
        self.so(COUNTER, STAYS, UP_PAPER)

    def test_splits_and_barred(self):
        entries, begin, leads, why = UP_PAPER
        self.so(COUNTER, STAYS, (entries, ("split", X, ("to", 0), BARRED), leads, why))
        self.so(COUNTER, STAYS, (entries, ("split", above(0, x=1), ("to", 0), ("to", 0)), leads, why))
        inner = ("split", X, ("to", 0), BARRED)
        self.so(COUNTER, STAYS, (entries, ("split", above(0, x=1), ("to", 0), inner), leads, why))
        fan = ("split", above(-1, x=1), ("to", 0), ("split", least(-1, x=1), ("to", 0), BARRED))
        self.so(COUNTER, STAYS, (entries, begin, [[(REST, 0, ("to", 0)), (UP, 0, fan)]], why))
        self.so(COUNTER, STAYS, (entries, begin, [leads[0] + [(UP, 1, BARRED), (REST, 1, BARRED)]], why))

    def test_a_split_is_put(self):
        # Behind up, x is one or more: the split asks of x behind the step.
        entries, begin, leads, why = UP_PAPER
        for wish, is_so in ((least(-1, x=1), True), (above(-1, x=1), False), (least(0, x=1), True),
                            (least(-2, x=1), False)):
            paper = (entries, begin, [[(REST, 0, ("to", 0)), (UP, 0, ("split", wish, ("to", 0), BARRED))]], why)
            self.assertEqual(look_at_joined(COUNTER, STAYS, paper), None if is_so else ("lead", 0, UP, 0))

    def test_of_no_runs(self):
        system = with_part(COUNTER, 1, (least(0, x=1), above(-1, x=-1)))
        for why in (NONE, ("lot", 0), ("parts", ()), ("rank", (), NONE)):
            self.so(system, STAYS, ([], BARRED, [], why))
            self.so(system, ("not", ("ever", ("wish", X))), ([], ("split", X, BARRED, BARRED), [], why))
        self.wrong(COUNTER, STAYS, ([], BARRED, [], NONE), ("begin",))

    def test_leads_that_nothing_asks(self):
        entries, begin, leads, why = DOOR_PAPER
        more = [leads[0] + [(PUSH, 0, ("to", 3)), (PUSH, 1, BARRED)], leads[1] + [(REST, 1, ("to", 0))], leads[2],
                [(REST, 0, ("to", 3)), (PUSH, 0, ("to", 0))]]
        self.so(DOOR, AGAIN, (entries, begin, more, why))

    def test_entries_that_nothing_leads_to(self):
        entries, begin, leads, why = DOOR_PAPER
        why = ("parts", why[1] + (((4,), NONE),))
        self.so(DOOR, AGAIN, (entries + entries[3:], begin, leads + [[]], why))
        self.wrong(DOOR, AGAIN, (entries + entries[1:2], begin, leads + [[]], why), ("lead", 4, REST, 0))

    def test_a_saying_that_no_row_breaks(self):
        # The made machine of yes has a stand without choices.
        self.so(DOOR, ("yes",), ([((None,), 0, ())], ("to", 0), [[]], NONE))
        self.so(SYSTEM, ("yes",), ([((None, None, None), 0, ())], ("to", 0), [[]], NONE))

    def test_wished_for(self):
        # Where down can be done x is one or more: what is known of the step's wishes.
        saying = ("always", ("or", ("not", ("deed", "down")), ("wish", least(-1, x=1))))
        table = Table(down_system(), saying)
        self.so(down_system(), saying, table.paper())
        self.assertNotEqual(look_at_joined(down_system(wish=least(0, x=1)), saying, table.paper()), None)


class Forms(Joined):
    def form(self, thing, system=DOOR, saying=AGAIN):
        self.wrong(system, saying, thing, ("form",))

    def test_of_anything(self):
        for thing in anything_but():
            self.form(thing)
            for at in range(3):
                self.form(with_part(DOOR_PAPER, at, thing))
            for at in range(4):
                self.form(with_part(DOOR_PAPER, 0, with_item(DOOR_ENTRIES, at, thing)))
                if thing != []:
                    self.form(with_part(DOOR_PAPER, 2, with_item(DOOR_LEADS, at, thing)))
            self.form(with_part(DOOR_PAPER, 2, with_item(DOOR_LEADS, 0, DOOR_LEADS[0] + [thing])))

    def test_the_whole(self):
        for thing in (list(DOOR_PAPER), DOOR_PAPER[:3], DOOR_PAPER + (None,),
                      with_part(DOOR_PAPER, 0, tuple(DOOR_ENTRIES)),
                      with_part(DOOR_PAPER, 2, tuple(DOOR_LEADS)), with_part(DOOR_PAPER, 2, DOOR_LEADS[:3]),
                      with_part(DOOR_PAPER, 2, DOOR_LEADS + [[]]), with_part(DOOR_PAPER, 0, DOOR_ENTRIES[:3]),
                      with_part(DOOR_PAPER, 2, dict(enumerate(DOOR_LEADS)))):
            self.form(thing)

    def test_entries(self):
        for entry in ((("shut",), 2, ()), (("shut",), -1, ()), (("shut",), True, ()), (("shut",), False, ()),
                      (("shut",), None, ()), (("off",), 0, ()), (("shut", "shut"), 0, ()), ((), 0, ()),
                      (["shut"], 0, ()),
                      ("shut", 0, ()), (None, 0, ()), (("shut",), 0, []), (("shut",), 0, None), (("shut",), 0),
                      (("shut",), 0, (), ()), [("shut",), 0, ()], (("shut",), 0, (None,)), (("shut",), 0, (X,)),
                      (("door",), 0, ()), ((True,), 0, ())):
            self.form(with_part(DOOR_PAPER, 0, with_item(DOOR_ENTRIES, 0, entry)))

    def test_places_of_several_machines(self):
        good = ((None, None, None), 0, ())
        self.assertIsNone(look_at_joined(SYSTEM, ("yes",), ([good], ("to", 0), [[]], NONE)))
        for places in (("low", None, "off"), ("off", None, None), (None, "low", None), (None, None, True), (None, None),
                       (None, None, None, None), ("low", "off", "off"), ("low", "low", "here")):
            self.form(([good, (places, 0, ())], ("to", 0), [[], []], NONE), SYSTEM, ("yes",))

    def test_wishes_of_entries(self):
        for wishes in ((just(0, x=1),), (X, just(0)), (least(0, y=1),), (("least", ((0, 1), (("x'", (1, 1)),))),), [X],
                       (X, None), X, (("most", line(0, x=1)),), (("least", line(0, x=1), ()),), ("x",)):
            self.form(with_part(UP_PAPER, 0, [(("a",), 0, wishes)]), COUNTER, STAYS)

    def test_fans(self):
        good = ("to", 0)
        for fan in (("to", 1), ("to", -1), ("to", True), ("to", False), ("to", None), ("to",), ("to", 0, 0),
                    ["to", 0], "to",
                    ("two", 0), ("barred", 0), ["barred"], "barred", ("split", X, good), ("split", X, good, good, good),
                    ("split", just(0, x=1), good, good), ("split", least(0, y=1), good, good),
                    ("split", None, good, good),
                    ("split", X, good, ("to", 1)), ("split", X, None, good), ["split", X, good, good],
                    ("split", X, good, ["barred"]), ("split", X, ("split", X, good, ()), good), (), ("split",),
                    ("split", ("least", ((0, 1), (("x'", (1, 1)),))), good, good)):
            self.form(with_part(UP_PAPER, 1, fan), COUNTER, STAYS)
            self.form(with_part(UP_PAPER, 2, [[(REST, 0, fan), (UP, 0, good)]]), COUNTER, STAYS)
            self.form(with_part(UP_PAPER, 2, [[(REST, 0, good), (UP, 0, good), (UP, 1, fan)]]), COUNTER, STAYS)

    def test_leads(self):
        good = ("to", 0)
        for lead in ((UP, 2, good), (UP, -1, good), (UP, True, good), (UP, False, good), (UP, None, good),
                     (UP, "0", good),
                     (UP, 0), (UP, 0, good, good), [UP, 0, good], (("up", (1,)), 0, good), (("up", (False,)), 0, good),
                     (("up", [0]), 0, good), (["up", (0,)], 0, good), (("no", (0,)), 0, good),
                     (("up", (None,)), 0, good),
                     (("rest", (0,)), 0, good), (("up", (0, 0)), 0, good), (None, 0, good), ("up", 0, good)):
            self.form(with_part(UP_PAPER, 2, [[(REST, 0, good), (UP, 0, good), lead]]), COUNTER, STAYS)
            self.form(with_part(UP_PAPER, 2, [[lead, (REST, 0, good), (UP, 0, good)]]), COUNTER, STAYS)

    def test_no_step_and_n_twice(self):
        good = ("to", 0)
        for lead in ((UP, 0, good), (REST, 0, BARRED), (UP, 0, BARRED)):
            self.form(with_part(UP_PAPER, 2, [[(REST, 0, good), (UP, 0, good), lead]]), COUNTER, STAYS)
        self.form(with_part(UP_PAPER, 2, [[(REST, 0, good), (UP, 0, good), (UP, 1, BARRED), (UP, 1, BARRED)]]),
                  COUNTER, STAYS)

    def test_choices_of_the_stand_of_the_entry(self):
        # Stand 0 has two choices, stand 1 has one.
        self.form(with_part(DOOR_PAPER, 2, with_item(DOOR_LEADS, 2, DOOR_LEADS[2] + [(PULL, 1, ("to", 3))])))

    def test_the_form_goes_ahead(self):
        paper = (DOOR_ENTRIES, BARRED, [[], [], [], [None]], None)
        self.form(paper)
        self.wrong(DOOR, AGAIN, with_part(paper, 2, [[], [], [], []]), ("begin",))

    def test_no_system_then_no_saying(self):
        for thing in anything_but() + [with_part(DOOR, 3, ("no",))]:
            for ask in (look_at_joined, is_joined):
                for saying in (AGAIN, None):
                    with self.assertRaises(NoSystem):
                        ask(thing, saying, DOOR_PAPER)
                with self.assertRaises(NoSaying):
                    ask(DOOR, thing, DOOR_PAPER)
                with self.assertRaises(NoSaying):
                    ask(DOOR, ("not", thing), None)


class Begins(Joined):
    def begin(self, fan, system=DOOR, saying=AGAIN, paper=DOOR_PAPER):
        self.wrong(system, saying, with_part(paper, 1, fan), ("begin",))

    def test_places_and_stand(self):
        for fan in (("to", 1), ("to", 2), ("to", 3), BARRED, ("split", least(0), ("to", 0), ("to", 1)),
                    ("split", least(-1), ("to", 1), ("to", 0))):
            self.begin(fan)
        for fan in (("split", least(0), ("to", 0), BARRED), ("split", least(-1), BARRED, ("to", 0)),
                    ("split", least(0), ("to", 0), ("to", 0))):
            self.so(DOOR, AGAIN, with_part(DOOR_PAPER, 1, fan))

    def test_wishes(self):
        self.begin(("to", 0), with_part(COUNTER, 1, ()), STAYS, UP_PAPER)
        self.begin(("to", 0), with_part(COUNTER, 1, (least(1, x=1),)), STAYS, UP_PAPER)
        self.so(with_part(COUNTER, 1, (just(-3, x=1),)), STAYS, UP_PAPER)
        self.begin(("split", above(0, x=1), ("to", 0), BARRED), COUNTER, STAYS, UP_PAPER)
        self.begin(("split", least(-1, x=-1), BARRED, BARRED), COUNTER, STAYS, UP_PAPER)
        self.so(COUNTER, STAYS, with_part(UP_PAPER, 1, ("split", above(0, x=-1), BARRED, ("to", 0))))

    def test_nothing_is_put(self):
        system = with_part(COUNTER, 1, (least(1, x=1),))
        self.begin(("to", 0), system, STAYS, UP_PAPER)

    def test_begin_goes_ahead_of_leads(self):
        self.begin(BARRED, paper=with_part(DOOR_PAPER, 2, [[], [], [], []]))
        self.wrong(DOOR, AGAIN, with_part(DOOR_PAPER, 2, [[], [], [], []]), ("lead", 0, REST, 0))


class Leads(Joined):
    def test_left_out(self):
        for entry, leads in enumerate(DOOR_LEADS):
            for at, (step, n, fan) in enumerate(leads):
                less = with_item(DOOR_LEADS, entry, leads[:at] + leads[at + 1:])
                self.wrong(DOOR, AGAIN, with_part(DOOR_PAPER, 2, less), ("lead", entry, step, n))

    def test_another_end(self):
        for entry, leads in enumerate(DOOR_LEADS):
            for at, (step, n, fan) in enumerate(leads):
                for other in (("to", 0), ("to", 1), ("to", 2), ("to", 3), BARRED):
                    if other != fan:
                        changed = with_item(DOOR_LEADS, entry, with_item(leads, at, (step, n, other)))
                        self.wrong(DOOR, AGAIN, with_part(DOOR_PAPER, 2, changed), ("lead", entry, step, n))

    def test_wishes_that_do_not_follow(self):
        down = with_part(COUNTER, 2, (("m", ("a",), (("a", "up", (), (("x", line(-1, x=1)),), "a"),)),))
        self.wrong(down, STAYS, UP_PAPER, ("lead", 0, UP, 0))
        read = with_part(COUNTER, 2, (("m", ("a",), (("a", "up", (), (("x", None),), "a"),)),))
        self.wrong(read, STAYS, UP_PAPER, ("lead", 0, UP, 0))
        row = ("a", "up", (least(-1, x=1),), (("x", line(-1, x=1)),), "a")
        wished = with_part(COUNTER, 2, (("m", ("a",), (row,)),))
        self.so(wished, STAYS, UP_PAPER)

    def test_what_is_read_is_like_nothing_else(self):
        # x is read: it isn't what it was, nor what another box is.
        system = (("x", "y"), (X, least(0, y=1)), (("m", ("a",), (("a", "up", (), (("x", None),), "a"),)),), ())
        paper = ([(("a",), 0, (X, least(0, y=1)))], ("to", 0), UP_PAPER[2], ("lot", 0))
        self.wrong(system, STAYS, paper, ("lead", 0, UP, 0))
        kept = ("always", ("wish", least(0, y=1)))
        paper = ([(("a",), 0, (least(0, y=1),))], ("to", 0), UP_PAPER[2], ("lot", 0))
        self.so(system, kept, paper)

    def test_asks_of_wishes_are_known(self):
        # Where the saying's own wish is asked to be so, it is known there, and its contrary where it isn't.
        saying = ("not", ("always", ("wish", X)))
        machine = machine_of(saying)
        self.assertEqual(machine, ((((((0, True),), 0, ()),),), 0))
        system = down_system(wish=least(5), to=line(1, x=1))
        entry = (("a",), 0, (X,))
        paper = ([(("a",), 0, ()), entry], ("to", 0), [[(REST, 0, ("to", 1)), (DOWN, 0, ("to", 1))]] * 2, ("lot", 0))
        self.wrong(system, saying, paper, ("why",))
        paper = with_part(paper, 0, [entry, entry])
        self.wrong(system, saying, paper, ("begin",))

    def test_the_order_of_entries_steps_and_choices(self):
        self.wrong(DOOR, AGAIN, with_part(DOOR_PAPER, 2, [DOOR_LEADS[0][:1], [], [], []]), ("lead", 0, REST, 1))
        self.wrong(DOOR, AGAIN, with_part(DOOR_PAPER, 2, [DOOR_LEADS[0][:2], [], [], []]), ("lead", 0, PULL, 0))
        self.wrong(DOOR, AGAIN, with_part(DOOR_PAPER, 2, [DOOR_LEADS[0][:3], [], [], []]), ("lead", 0, PULL, 1))
        self.wrong(DOOR, AGAIN, with_part(DOOR_PAPER, 2, [DOOR_LEADS[0], [], [], []]), ("lead", 1, REST, 0))
        self.wrong(DOOR, AGAIN, with_part(DOOR_PAPER, 2, [DOOR_LEADS[0][::-1], [], [], []]), ("lead", 1, REST, 0))

    def test_the_order_of_places(self):
        # The places of the first machine change last: ahead of up from b comes in from d.
        machines = (("m", ("a", "b"), (("b", "up", (), (), "a"),)), ("n", ("c", "d"), (("d", "within", (), (), "c"),)))
        system = ((), (), machines, ())
        rest, up, within = ("rest", (None, None)), ("up", (0, None)), ("within", (None, 0))
        saying = ("not", ("yes",))
        end = ("to", 0)
        entries = [((None, None), 0, ()), ((None, None), 1, ())]
        self.assertEqual(machine_of(saying), (((((), 1, ()),), (((), 1, ()),)), 0))
        leads = [(rest, 0, ("to", 1))]
        for some, ask in (([], ("lead", 0, rest, 0)), (leads, ("lead", 0, within, 0)),
                          (leads + [(within, 0, ("to", 1))], ("lead", 0, up, 0)),
                          (leads + [(up, 0, ("to", 1))], ("lead", 0, within, 0)),
                          (leads + [(up, 0, ("to", 1)), (within, 0, ("to", 1))], ("lead", 1, rest, 0))):
            self.wrong(system, saying, (entries, end, [some, []], NONE), ask)
        # Turned about, up comes first.
        turned = ((), (), machines[::-1], ())
        leads = [(rest, 0, ("to", 1))]
        self.wrong(turned, saying, (entries, end, [leads, []], NONE), ("lead", 0, ("up", (None, 0)), 0))
        # With a place told for the second machine, up comes first, too.
        self.wrong(system, saying, ([((None, "c"), 0, ()), entries[1]], end, [leads, []], NONE), ("lead", 0, up, 0))

    def test_asks_of_places_that_fit(self):
        # Of any place: at ajar the choice that asks for another one isn't taken, at shut it is.
        entries, begin, leads, why = ANY_PAPER
        less = [[lead for lead in leads[0] if lead[:2] != (PULL, 1)], leads[1]]
        self.wrong(DOOR, AGAIN, with_part(ANY_PAPER, 2, less), ("lead", 0, PULL, 1))
        self.assertEqual(conditions(DOOR, AGAIN, ("shut",), 0, (), PULL, 1), [])
        self.assertIsNone(conditions(DOOR, AGAIN, ("ajar",), 0, (), PUSH, 1))


class Whys(Joined):
    def why(self, why, ask, system=DOOR, saying=AGAIN, paper=DOOR_PAPER):
        thing = with_part(paper, 3, why)
        self.assertEqual(look_at_joined(system, saying, thing), ask, why)
        self.assertIs(is_joined(system, saying, thing), ask is None)
        self.assertIs(is_why_so(system, saying, thing), ask is None)

    def test_whatever_stands_there(self):
        for thing in anything_but():
            self.why(thing, ("why",))
            self.why(("rank", thing, ("lot", 0)), ("why",))
            self.why(("parts", (((0, 1, 2, 3), thing),)), ("why",))

    def test_lots_and_parts(self):
        self.why(DOOR_WHY, None)
        for why in (NONE, ("lot", 0), ("lot", 1), ("lot", 2), ("lot", 3), ("lot", -1), ("lot", True),
                    ("parts", DOOR_WHY[1][:2]), ("parts", DOOR_WHY[1][::-1]),
                    ("parts", (((0, 1), ("lot", 1)),) + DOOR_WHY[1][1:]),
                    ("parts", (((0, 1), ("lot", 2)),) + DOOR_WHY[1][1:]),
                    ("parts", (((0, 1), ("lot", 3)),) + DOOR_WHY[1][1:]),
                    ("parts", (((0,), NONE), ((1,), NONE)) + DOOR_WHY[1][1:]),
                    ("parts", (DOOR_WHY[1][0], ((2,), ("lot", 0)), DOOR_WHY[1][2])),
                    ("parts", (DOOR_WHY[1][0], ((2,), NONE), DOOR_WHY[1][2]))):
            self.why(why, ("why",))
        for why in (("parts", (((0, 1), ("lot", 0)), ((2, 3), ("lot", 2)))),
                    ("parts", (((0, 1), ("lot", 0)), ((), NONE), ((2, 3), ("parts", DOOR_WHY[1][1:])))),
                    ("parts", (((0, 1, 2, 3), ("parts", (((0, 1, 2, 3), DOOR_WHY),))),)),
                    ("parts", (((0, 1), ("lot", 0)), ((2,), ("lot", 2)), ((3,), ("lot", 1))))):
            self.why(why, None)

    def test_lots_of_fair_stand_behind_the_machine_s(self):
        # Without the fairness of pull there is a run: the door stays shut for ever.
        for fair, why in (((), None), (("push",), ("lot", 1)), (("pull",), ("lot", 1)), (("pull", "push"), ("lot", 1)),
                          (("pull", "push"), ("lot", 2))):
            system = with_part(DOOR, 3, fair)
            parts = (DOOR_WHY[1][0], ((2,), why or NONE), DOOR_WHY[1][2])
            self.why(("parts", parts), ("why",) if why is None else None, system=system)
            parts = (DOOR_WHY[1][0], ((2,), ("lot", 1 + len(fair))), DOOR_WHY[1][2])
            self.why(("parts", parts), ("why",), system=system)

    def test_ties_of_each_to(self):
        # A split of which both sides lead somewhere has two ties, also where one side can't be.
        leads = with_item(DOOR_LEADS, 2, [(REST, 0, ("split", least(0), ("to", 2), ("to", 2))), (PULL, 0, ("to", 3))])
        self.why(DOOR_WHY, None, paper=with_part(DOOR_PAPER, 2, leads))
        two = (("shut",), 1, ())
        fan = ("split", least(0), ("to", 2), ("to", 4))
        entries = DOOR_ENTRIES + [two]
        leads = with_item(DOOR_LEADS, 2, [(REST, 0, fan), (PULL, 0, ("to", 3))])
        leads.append([(REST, 0, ("to", 4)), (PULL, 0, ("to", 3))])
        paper = (entries, ("to", 0), leads, None)
        self.why(("parts", DOOR_WHY[1][:2] + (((4,), ("lot", 1)), ((3,), NONE))), None, paper=paper)
        turned = (DOOR_WHY[1][0], ((4,), ("lot", 1)), ((2,), ("lot", 1)), ((3,), NONE))
        self.why(("parts", turned), ("why",), paper=paper)

    def test_why_goes_last(self):
        self.wrong(DOOR, AGAIN, (DOOR_ENTRIES, ("to", 0), with_item(DOOR_LEADS, 2, []), None), ("lead", 2, REST, 0))
        self.assertIs(is_why_so(DOOR, AGAIN, (DOOR_ENTRIES, ("to", 0), with_item(DOOR_LEADS, 2, []), DOOR_WHY)), False)

    def test_begin_is_not_asked_by_is_why_so(self):
        self.assertIs(is_why_so(DOOR, AGAIN, (DOOR_ENTRIES, BARRED, DOOR_LEADS, DOOR_WHY)), True)
        self.assertIs(is_why_so(paper=(DOOR_ENTRIES, BARRED, DOOR_LEADS, NONE), saying=AGAIN, system=DOOR), False)


class Ranks(Joined):
    def ranked(self, paper, truth, system=None):
        system = down_system() if system is None else system
        (self.so if truth else lambda *told: self.wrong(*told, ("why",)))(system, FALLS, paper)

    def test_a_counter_that_falls(self):
        self.ranked(down_paper(), True)
        self.ranked(down_paper(line(5, x=1), line(5, x=1)), True)
        self.ranked(down_paper(line(0, x=7), line(0, x=7)), True)
        self.ranked(down_paper(why=("parts", (((0,), NONE), ((1,), ("lot", 0))))), True)
        self.ranked(down_paper(why=("rank", (line(3), line(3)), ("lot", 0))), True)
        self.ranked(down_paper(why=NONE), False)
        self.ranked(down_paper(why=("lot", 1)), False)

    def test_ranks_that_do_not_fall(self):
        self.ranked(down_paper(line(0), line(0)), False)
        self.ranked(down_paper(line(9), line(9)), False)
        self.ranked(down_paper(line(0, x="1/2"), line(0, x="1/2")), False)
        self.ranked(down_paper(line(0, x="99/100"), line(0, x="99/100")), False)

    def test_ranks_below_nought(self):
        # Where down is done x is one or more: x less one is nought or more, x less two perhaps not.
        self.ranked(down_paper(line(-1, x=1), line(-1, x=1)), True)
        self.ranked(down_paper(line(-2, x=1), line(-2, x=1)), False)
        self.ranked(down_paper(), False, down_system(wish=least(5)))
        self.ranked(down_paper(), False, down_system(wish=least(1, x=1)))
        self.ranked(down_paper(line(1, x=1), line(1, x=1)), True, down_system(wish=least(1, x=1)))

    def test_ranks_that_rise(self):
        self.ranked(down_paper(line(0, x=-1), line(0, x=-1)), False)
        self.ranked(down_paper(line(0, x=1), line(1, x=1)), False)
        self.ranked(down_paper(line(1, x=1), line(0, x=1)), False)
        self.ranked(down_paper(), False, down_system(to=line(0, x=1)))
        self.ranked(down_paper(), False, down_system(to=line(1, x=1)))
        self.ranked(down_paper(), False, down_system(to=None))
        self.ranked(down_paper(), False, down_system(to=line(0, x=2)))
        self.ranked(down_paper(), True, down_system(to=line(0)))
        self.ranked(down_paper(), True, down_system(wish=least(-2, x=1), to=line(0, x="1/2")))
        self.ranked(down_paper(), False, down_system(wish=least(-1, x=1), to=line(0, x="1/2")))

    def test_lines_by_their_form(self):
        good = line(0, x=1)
        for lines in ((good,), (good, good, good), (), [good, good], (good, None), (good, line(0, y=1)), good,
                      (good, ((0, 1), (("x'", (1, 1)),))), (good, least(0, x=1)), ((good, good),), (good, "x"),
                      (good, (0, ())), (good, ((2, 2), ()))):
            self.ranked(with_part(down_paper(), 3, ("rank", lines, ("lot", 0))), False)
        for why in (("rank", (good, good)), ("rank", (good, good), ("lot", 0), ()), ["rank", (good, good), ("lot", 0)],
                    ("ranks", (good, good), ("lot", 0))):
            self.ranked(with_part(down_paper(), 3, why), False)

    def test_other_starts(self):
        # Each entry has its own line: one more at entry 1, to which nothing falls, where the tie to it is of rest.
        system = down_system()
        leads = [[(REST, 0, ("to", 1)), (DOWN, 0, ("to", 1)), (DOWN, 1, ("to", 0))], DOWN_LEADS]
        self.ranked(with_part(down_paper(), 2, leads), True, system)
        self.ranked(down_paper(line("1/2", x=1), line("1/4", x=1)), False, system)

    def test_a_line_for_each_entry_of_the_lot_in_order(self):
        # Three entries, of which the lot of the rank has the first and the third.
        entries = [(("a",), 0, ()), (("a",), 1, (least(0),)), (("a",), 1, ())]
        leads = [[(step, n, ("to", {0: 0, 1: 2}[fan[1]])) for step, n, fan in DOWN_LEADS] for _ in range(3)]
        rank = ("rank", (line(0, x=1), line(0, x=1)), ("lot", 0))
        paper = (entries, ("to", 0), leads, ("parts", (((1,), NONE), ((0, 2), rank))))
        self.ranked(paper, True)
        self.ranked(with_part(paper, 3, ("parts", (((0, 2), rank), ((1,), NONE)))), False)
        other = ("rank", (line(0, x=1), line(0), line(0, x=1)), ("lot", 0))
        self.ranked(with_part(paper, 3, ("parts", (((1,), NONE), ((0, 2), other)))), False)
        self.ranked(with_part(paper, 3, ("rank", (line(0, x=1), line(2, x=1), line(0, x=1)), ("lot", 0))), True)
        self.ranked(with_part(paper, 3, ("rank", (line(0, x=1), line(-2, x=1), line(0, x=1)), ("lot", 0))), False)

    def test_by_what_splits_tell(self):
        table = Table(ASKED, NOT_AGAIN, (LESS,))
        self.assertIsNone(table.paper())
        bad = tuple(at for at, (places, stand, wishes) in enumerate(table.entries)
                    if places == ("b",) and wishes != (LESS,))
        good = tuple(at for at in range(len(table.entries)) if at not in bad)
        self.assertTrue(good and bad)

        def why(some):
            return ("parts", ((good, ("rank", tuple(map(some, good)), ("lot", 0))), (bad, ("lot", 0))))
        paper = table.paper(why(lambda at: line(0, x=1)))
        self.so(ASKED, NOT_AGAIN, paper)
        self.wrong(ASKED, NOT_AGAIN, table.paper(why(lambda at: line(0, y=1))), ("why",))
        self.wrong(ASKED, NOT_AGAIN, table.paper(why(lambda at: line(-1, x=1))), ("why",))
        whole = tuple(range(len(table.entries)))
        self.wrong(ASKED, NOT_AGAIN, table.paper(("rank", tuple(line(0, x=1) for _ in whole), ("lot", 0))), ("why",))
        # Without splits the falling isn't known.
        plain = Table(ASKED, NOT_AGAIN)
        rank = ("rank", tuple(line(0, x=1) for _ in plain.entries), ("lot", 0))
        self.wrong(ASKED, NOT_AGAIN, plain.paper(rank), ("why",))

    def test_two_ranks_one_within_the_other(self):
        # x is counted down, and y read where it is; between, y is counted down.
        rows = (("a", "down", (least(-1, x=1),), (("x", line(-1, x=1)), ("y", None)), "a"),
                ("a", "less", (least(-1, y=1),), (("y", line(-1, y=1)),), "a"))
        system = (("x", "y"), (), (("m", ("a",), rows),), ())
        saying = ("not", ("always", ("ever", ("or", ("deed", "down"), ("deed", "less")))))
        table = Table(system, saying)
        many = len(table.entries)
        for first, second, ask in (("x", "y", None), ("y", "x", ("why",)), ("x", "x", ("why",)), ("y", "y", ("why",))):
            why = ("rank", (line(0, **{first: 1}),) * many, ("rank", (line(0, **{second: 1}),) * many, ("lot", 0)))
            self.assertEqual(look_at_joined(system, saying, table.paper(why)), ask)
        parts = ("parts", ((tuple(range(many)), ("rank", (line(0, y=1),) * many, ("lot", 0))),))
        self.so(system, saying, table.paper(("rank", (line(0, x=1),) * many, parts)))

    def test_fair_s_lots_and_ranks(self):
        # A fair deed that can't be done again and again: any saying holds.
        system = with_part(down_system(), 3, ("down",))
        saying = ("always", ("deed", "rest"))
        table = Table(system, saying)
        many = len(table.entries)
        self.assertIsNone(table.paper())
        rank = (line(0, x=1),) * many
        self.so(system, saying, table.paper(("rank", rank, ("lot", table.many() - 1))))
        self.wrong(system, saying, table.paper(("rank", rank, ("lot", table.many()))), ("why",))
        self.wrong(with_part(system, 3, ()), saying, table.paper(("rank", rank, ("lot", table.many() - 1))), ("why",))


class Asked(unittest.TestCase):
    def test_is_asked_so(self):
        for entry, leads in enumerate(DOOR_LEADS):
            for at, (step, n, fan) in enumerate(leads):
                self.assertIs(is_asked_so(DOOR, AGAIN, DOOR_PAPER, entry, step, n), True)
                less = with_part(DOOR_PAPER, 2, with_item(DOOR_LEADS, entry, leads[:at] + leads[at + 1:]))
                self.assertIs(is_asked_so(DOOR, AGAIN, less, entry, step, n), False)
                for other, (step_too, m, fan) in enumerate(leads):
                    self.assertIs(is_asked_so(DOOR, AGAIN, less, entry, step_too, m), other != at)

    def test_what_is_not_asked(self):
        bare = with_part(DOOR_PAPER, 2, [[], [], [], []])
        self.assertIs(is_asked_so(DOOR, AGAIN, bare, 0, PUSH, 0), True)
        self.assertIs(is_asked_so(DOOR, AGAIN, bare, 1, REST, 1), True)
        self.assertIs(is_asked_so(DOOR, AGAIN, bare, 1, PULL, 0), True)
        self.assertIs(is_asked_so(DOOR, AGAIN, bare, 3, REST, 0), True)
        self.assertIs(is_asked_so(n=0, step=REST, entry=1, paper=bare, saying=AGAIN, system=DOOR), False)

    def test_for_all_places_that_fit(self):
        entries, begin, leads, why = ANY_PAPER
        self.assertIs(is_asked_so(DOOR, AGAIN, ANY_PAPER, 0, REST, 1), True)
        # Rest leads from shut and from ajar: an end that fits the one alone isn't so for all.
        other = with_item(leads[0], 0, (REST, 0, ("to", 2)))
        paper = (entries + [(("shut",), 0, ())], begin, [other, leads[1], []], why)
        self.assertIs(is_asked_so(DOOR, AGAIN, paper, 0, REST, 0), False)
        # By choice 1 the door isn't open: shut alone is asked.
        other = with_item(leads[0], 1, (REST, 1, ("to", 2)))
        paper = (entries + [(("shut",), 1, ())], begin, [other, leads[1], []], why)
        self.assertIs(is_asked_so(DOOR, AGAIN, paper, 0, REST, 1), True)

    def test_barred(self):
        self.assertIs(is_asked_so(COUNTER, STAYS, UP_PAPER, 0, UP, 1), True)
        loose = with_part(UP_PAPER, 0, [(("a",), 0, ())])
        self.assertIs(is_asked_so(COUNTER, STAYS, loose, 0, UP, 1), False)
        self.assertIs(is_asked_so(COUNTER, STAYS, loose, 0, UP, 0), True)


class ByChance(Joined):
    def test_papers_of_systems_without_boxes(self):
        chance = chance_of(171)
        words = []
        for _ in range(150):
            system = some_small_system(chance)
            saying = some_saying_over(chance, atoms_over(system), 4)
            table = Table(system, saying)
            paper = table.paper()
            if paper is None:
                self.check_lap(system, saying, table)
                self.check_no_paper(chance, system, saying, table)
            else:
                self.so(system, saying, paper)
                self.check_holds(system, saying)
                self.check_asks(system, saying, paper)
            words.append(paper is None)
        self.assertGreater(words.count(True), 40)
        self.assertGreater(words.count(False), 40)

    def check_lap(self, system, saying, table):
        """The lap told breaks the saying: so none of the papers may be let by."""
        word, stem, lap = table.sought()
        run = ((), *([(table.ties[number][3], (), ()) for number in row] for row in (stem, lap)))
        self.assertTrue(is_run(system, run) and counts(system, run))
        self.assertIs(holds(saying, letters_of(system, run, atoms_of(saying))), False)

    def check_no_paper(self, chance, system, saying, table):
        many = len(table.entries)
        whole = tuple(range(many))
        whys = [NONE] + [("lot", n) for n in range(-1, table.many() + 2)]
        whys += [("parts", tuple(((at,), why) for at in order)) for why in whys for order in (whole, whole[::-1])]
        whys += [("rank", (line(0),) * many, why) for why in whys]
        for why in whys:
            self.wrong(system, saying, table.paper(why), ("why",))
        entries, begin, leads, why = table.paper(("lot", 0))
        for at in range(many):
            for some in range(len(leads[at])):
                less = with_item(leads, at, leads[at][:some] + leads[at][some + 1:])
                self.assertEqual(look_at_joined(system, saying, (entries, begin, less, why))[0], "lead")

    def check_holds(self, system, saying):
        for run in rounds_of(system, 3):
            if counts(system, run):
                self.assertIs(holds(saying, letters_of(system, run, atoms_of(saying))), True)

    def check_asks(self, system, saying, paper):
        """What is left out or put otherwise is told, and by is_asked_so, too."""
        entries, begin, leads, why = paper
        for at, some in enumerate(leads):
            for number, (step, n, fan) in enumerate(some):
                less = (entries, begin, with_item(leads, at, some[:number] + some[number + 1:]), why)
                self.wrong(system, saying, less, ("lead", at, step, n))
                self.assertIs(is_asked_so(system, saying, less, at, step, n), False)
                other = (entries, begin, with_item(leads, at, with_item(some, number, (step, n, BARRED))), why)
                self.wrong(system, saying, other, ("lead", at, step, n))

    def test_papers_of_systems_with_boxes(self):
        # Whatever is let by holds on real runs that count, numbers that never come again included.
        chance = chance_of(174)
        let_by, looked, broken = 0, 0, 0
        for _ in range(160):
            system = some_drifting_system(chance)
            wishes = [(chance.choice(("least", "above")), line(chance.randint(-3, 3), **{
                chance.choice(system[0]): chance.choice((1, -1))})) for _ in range(2)]
            atoms = [("wish", wish) for wish in wishes] * 3 + atoms_over(system)
            saying = some_saying_over(chance, atoms, 3)
            through = [atom[1] for atom in atoms_of(saying) if atom[0] == "wish"]
            table = Table(system, saying, tuple(through))
            holds_so = is_joined(system, saying, table.paper() or table.paper(("lot", 0)))
            self.assertIs(holds_so, table.paper() is not None)
            whole = len(table.entries)
            for rank in (line(3, x=1), line(0, x=-1)):
                for n in range(table.many()):
                    why = ("rank", (rank,) * whole, ("lot", n))
                    holds_so = is_joined(system, saying, table.paper(why)) or holds_so
            let_by += holds_so
            for run in [some_run(chance, system) for _ in range(25)]:
                if is_run(system, run) and counts(system, run):
                    truth = holds(saying, letters_of(system, run, atoms_of(saying)))
                    self.assertTrue(truth or not holds_so, (system, saying, run))
                    looked += holds_so
                    broken += not truth
        self.assertGreater(let_by, 20)
        self.assertGreater(looked, 50)
        self.assertGreater(broken, 50)

    def test_papers_of_other_systems(self):
        # A paper of a system in which a row is another one: let by or not, what it lets by holds.
        chance = chance_of(172)
        let_by = 0
        for _ in range(250):
            system = some_small_system(chance)
            saying = some_saying_over(chance, atoms_over(system), 3)
            paper = Table(system, saying).paper()
            at = chance.randrange(len(system[2]))
            name, places, rows = system[2][at]
            if paper is None or not rows:
                continue
            number = chance.randrange(len(rows))
            row = with_part(rows[number], chance.choice((0, 4)), chance.choice(places))
            other = with_machine(system, at, (name, places, with_part(rows, number, row)))
            if is_joined(other, saying, paper):
                let_by += other != system
                self.check_holds(other, saying)
                self.assertIsNotNone(Table(other, saying).paper())
        self.assertGreater(let_by, 5)

    def test_any_place_in_the_stead_of_each(self):
        # Entries for any places: their leads are those of all places that fit.
        chance = chance_of(173)
        tried = 0
        for _ in range(120):
            system = some_small_system(chance)
            saying = some_saying_over(chance, [("deed", "rest")] + [("deed", deed) for deed in system[3]], 3)
            machine = machine_of(saying)
            anywhere = (None,) * len(system[2])
            entries = [(anywhere, stand, ()) for stand in range(len(machine[0]))]
            leads = []
            for stand, choices in enumerate(machine[0]):
                steps = sorted({step for places in all_places(system) for step in self.steps(system, places)}, key=repr)
                leads.append([(step, n, ("to", to)) for step in steps for n, (asks, to, kept) in enumerate(choices)])
            ask = look_at_joined(system, saying, (entries, ("to", 0), leads, None))
            self.assertEqual(ask, ("why",))
            tried += 1
        self.assertEqual(tried, 120)

    def steps(self, system, places):
        steps = [("rest", (None,) * len(system[2]))]
        for deed in sorted({row[1] for machine in system[2] for row in machine[2]}):
            chosen = [()]
            for machine in system[2]:
                numbers = [number for number, row in enumerate(machine[2]) if row[1] == deed] or [None]
                chosen = [ahead + (number,) for ahead in chosen for number in numbers]
            steps += [(deed, rows) for rows in chosen if can_stand(system, places, (deed, rows))]
        return steps


if __name__ == "__main__":
    unittest.main()
