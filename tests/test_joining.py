import copy
import unittest

from glassladder.errors import NotShown
from glassladder.joining import behind_one_another, joined_up
from glassladder.looker import look_at_joined
from glassladder.rungs import is_rung, is_shown, led_places, led_saying, led_step
from glassladder.sayings import look_at_saying
from glassladder.steps import behind, steps_from
from glassladder.together import together
from glassladder.unasked import unasked
from tests.ladders import some_quotient, some_upper
from tests.machines import some_system, with_part
from tests.papers import Table, all_places, atoms_over, some_saying_over, tos
from tests.runs import some_drifting_system
from tests.samples import chance_of, least, line

REST = ("rest", (None, None))
# A door that a clock doesn't touch; two of its places are alike.
DOOR = ("door", ("shut", "ajar", "wide"), (
    ("shut", "pull", (), (), "ajar"), ("ajar", "push", (), (), "shut"), ("wide", "push", (), (), "shut"),
    ("shut", "tear", (), (), "wide"),
))
CLOCK = ("clock", ("tick", "tock"), (("tick", "turn", (), (), "tock"), ("tock", "turn", (), (), "tick")))
BOTH = ((), (), (CLOCK, DOOR), ("pull", "turn"))
SAYING = ("always", ("ever", ("not", ("place", "door", "shut"))))
# The door alone, its open places one; the clock is left out.
LOWER = ((), (), (("gate", ("shut", "free"), (
    ("shut", "pull", (), (), "free"), ("free", "push", (), (), "shut"), ("shut", "tear", (), (), "free"),
)),), ("pull",))
MEANING = (None, (0, (("shut", "shut"), ("ajar", "free"), ("wide", "free"))))
RUNG = ("more", BOTH, LOWER, MEANING)


def some_rung(chance, system):
    """A rung by chance that is let by."""
    for _ in range(30):
        rung = some_quotient(chance, system)
        for word in ("same", "more"):
            if is_rung((word,) + rung[1:]):
                return (word,) + rung[1:]
    return ("same", system, system, tuple((n, tuple((place, place) for place in machine[1]))
                                          for n, machine in enumerate(system[2])))


def shown_sayings(chance, rung, many):
    """Sayings by chance that a rung shows."""
    atoms = [atom for atom in atoms_over(rung[1]) if is_shown(rung, atom)] or [("yes",)]
    atoms += [("wish", least(chance.randint(-1, 1), **{box: chance.choice((1, -1))})) for box in rung[2][0]]
    return [some_saying_over(chance, atoms, 3) for _ in range(many)]


def paper_below(chance, rung, saying):
    """A paper of the lower system and the saying led down, None where none was found, or it is great."""
    wishes = [atom[1] for atom in (saying,) if atom[0] == "wish"]
    made = Table(rung[2], led_saying(rung, saying), wishes)
    return made.paper()


class BehindOneAnother(unittest.TestCase):
    def test_one(self):
        self.assertEqual(behind_one_another([RUNG]), RUNG)
        self.assertEqual(behind_one_another(rungs=[RUNG]), RUNG)

    def test_words(self):
        first = together(BOTH, SAYING)
        second = together(first[2], SAYING)
        third = unasked(first[2], SAYING)
        self.assertEqual(behind_one_another([first, second])[0], "same")
        self.assertEqual(behind_one_another([first, third])[0], "more")
        fourth = together(third[2], SAYING)
        self.assertEqual(behind_one_another([first, third, fourth])[0], "more")
        self.assertEqual(behind_one_another([third, fourth])[0], "more")

    def test_meanings(self):
        # The clock stands ahead of the door, then it is left out.
        first = together(BOTH, SAYING)
        self.assertEqual(first[3][0], (0, (("tick", "tick"), ("tock", "tick"))))
        second = ("more", first[2], ((), (), (DOOR[:1] + first[2][2][1][1:],), ("pull",)),
                  (None, (0, (("shut", "shut"), ("ajar", "ajar")))))
        self.assertTrue(is_rung(second))
        whole = behind_one_another([first, second])
        self.assertEqual(whole, ("more", BOTH, second[2],
                                 (None, (0, (("shut", "shut"), ("ajar", "ajar"), ("wide", "ajar"))))))
        self.assertTrue(is_rung(whole))

    def test_machines_in_other_orders(self):
        def turned(system):
            return with_part(system, 2, system[2][::-1])

        def exchanged(system):
            one, other = ((n, tuple((place, place) for place in machine[1])) for n, machine in enumerate(system[2]))
            return (("same", system, turned(system), ((1, one[1]), (0, other[1]))))

        first = exchanged(BOTH)
        self.assertTrue(is_rung(first))
        second = exchanged(turned(BOTH))
        self.assertEqual(behind_one_another([first, second])[3],
                         tuple((n, tuple((place, place) for place in machine[1]))
                               for n, machine in enumerate(BOTH[2])))
        self.assertEqual(behind_one_another([first, second, first]), first)

    def test_led_as_by_all_of_them(self):
        chance = chance_of(20)
        seen = set()
        for _ in range(60):
            system = some_upper(chance)
            saying = ("yes",)
            rungs = []
            for make in chance.choices((unasked, together, some_rung), k=chance.randint(1, 3)):
                rung = make(chance, system) if make is some_rung else make(system, saying)
                rungs.append(rung)
                system = rung[2]
            # Of rungs told by hand or by chance a step may be led to another one that fits as well (18).
            is_made = all(rung in (unasked(rung[1], saying), together(rung[1], saying)) for rung in rungs)
            whole = behind_one_another(rungs)
            self.assertEqual(whole[1:3], (rungs[0][1], system))
            self.assertEqual(whole[0], "same" if all(rung[0] == "same" for rung in rungs) else "more")
            self.assertTrue(is_rung(whole), rungs)
            seen.add((len(rungs), whole[0]))
            for places in all_places(whole[1]):
                led = places
                for rung in rungs:
                    led = led_places(rung, led)
                self.assertEqual(led_places(whole, places), led)
                for step in steps_from(whole[1], places):
                    other = step
                    for rung in rungs:
                        other = led_step(rung, other)
                    one = led_step(whole, step)
                    self.assertEqual(behind(system, led, one), behind(system, led, other))
                    if is_made:
                        self.assertEqual(one, other)
        self.assertEqual(seen, {(many, word) for many in (1, 2, 3) for word in ("more", "same")})

    def test_what_is_handed_in_stays(self):
        rungs = [RUNG]
        behind_one_another(rungs)
        self.assertEqual(rungs, [RUNG])


ENTRIES = [(("shut",), 0, ()), (("free",), 0, ()), (("shut",), 1, ()), (("free",), 1, ())]
GATE = ("gate", ("free", "shut"), ())
PULL, PUSH, TEAR, LOW_REST = ("pull", (0,)), ("push", (1,)), ("tear", (2,)), ("rest", (None,))


class JoinedUp(unittest.TestCase):
    def setUp(self):
        self.lower = Table(LOWER, led_saying(RUNG, SAYING)).paper()

    def test_by_hand(self):
        self.assertTrue(is_rung(RUNG))
        self.assertIsNone(look_at_joined(LOWER, led_saying(RUNG, SAYING), self.lower))
        entries, begin, leads, why = self.lower
        up = joined_up(RUNG, SAYING, self.lower)
        self.assertIsNone(look_at_joined(BOTH, SAYING, up))
        told = []
        for places, stand, wishes in entries:
            told.extend([((None, place), stand, wishes)
                         for place in {"shut": ("shut",), "free": ("ajar", "wide")}[places[0]]])
        self.assertEqual(up[0], told)
        self.assertEqual(up, joined_up(paper=self.lower, saying=SAYING, rung=RUNG))

    def test_fans_lead_to_the_entry_that_fits(self):
        up = joined_up(RUNG, SAYING, self.lower)
        here = up[0].index(((None, "shut"), 0, ()))
        ends = {(step[0], up[0][end][0][1]) for step, n, fan in up[2][here] for end in tos(fan)}
        self.assertEqual(ends, {("rest", "shut"), ("turn", "shut"), ("pull", "ajar"), ("tear", "wide")})

    def test_leads_of_hidden_steps_are_those_of_rest(self):
        up = joined_up(RUNG, SAYING, self.lower)
        for leads in up[2]:
            rest = [(n, fan) for step, n, fan in leads if step == REST]
            turns = [[(n, fan) for step, n, fan in leads if step == ("turn", (number, None))] for number in (0, 1)]
            self.assertEqual(turns, [rest, rest])

    def test_none_below(self):
        # The door's place isn't told below: nor is it above.
        paper = ([((None,), 0, ())], ("to", 0), [[(PULL, 0, ("to", 0))]], ("lot", 1))
        up = joined_up(RUNG, SAYING, paper)
        self.assertEqual(up[0], [((None, None), 0, ())])
        self.assertEqual(up[2], [[(("pull", (None, 0)), 0, ("to", 0))]])
        self.assertEqual(up[1:2] + up[3:], (("to", 0), ("lot", 1)))

    def test_barred_where_none_fits(self):
        # From shut, `pull` leads to a free place: an entry that tells shut doesn't fit.
        leads = [[(PULL, 0, ("to", 0)), (TEAR, 0, ("to", 1))], []]
        paper = ([(("shut",), 0, ()), (("free",), 0, ())], ("to", 1), leads, ("none",))
        up = joined_up(RUNG, SAYING, paper)
        self.assertEqual(up[1], ("barred",))
        self.assertEqual(up[2][0], [(("pull", (None, 0)), 0, ("barred",)), (("tear", (None, 3)), 0, ("to", 2))])

    def test_barred_where_no_upper_place_is_led_to(self):
        lower = with_part(LOWER, 2, (("gate", ("shut", "free", "lost"), LOWER[2][0][2]),))
        rung = ("more", BOTH, lower, MEANING)
        self.assertTrue(is_rung(rung))
        entries = [(("lost",), 0, ()), (("shut",), 0, ())]
        paper = (entries, ("to", 1), [[(LOW_REST, 0, ("to", 0))], [(LOW_REST, 0, ("to", 0)), (LOW_REST, 1, ("to", 1))]],
                 ("rank", (line(1), line(2)), ("parts", (((0,), ("lot", 0)), ((1,), ("none",))))))
        up = joined_up(rung, SAYING, paper)
        self.assertEqual(up[0], [((None, "shut"), 0, ())])
        self.assertEqual(up[2][0][:2], [(REST, 0, ("barred",)), (REST, 1, ("to", 0))])
        self.assertEqual(up[3], ("rank", (line(2),), ("parts", (((), ("lot", 0)), ((0,), ("none",))))))

    def test_splits(self):
        wish = least(1, x=1)
        fan = ("split", wish, ("to", 1), ("split", wish, ("barred",), ("to", 0)))
        paper = ([(("shut",), 0, ()), (("free",), 0, ())], fan, [[(PULL, 0, fan)], [(PUSH, 1, fan)]], ("none",))
        up = joined_up(RUNG, SAYING, paper)
        none = ("split", wish, ("barred",), ("split", wish, ("barred",), ("to", 0)))
        self.assertEqual(up[1], none)
        pulled = ("split", wish, ("to", 1), ("split", wish, ("barred",), ("barred",)))
        self.assertEqual(up[2], [[(("pull", (None, 0)), 0, pulled)], [(("push", (None, 1)), 1, none)],
                                 [(("push", (None, 2)), 1, none)]])

    def test_whys(self):
        # `pull` is the lower's lot 1 and the upper's, too; with another fair deed ahead it is the upper's lot 2.
        entries = [(("free",), 0, ()), (("shut",), 1, ()), (("free",), 1, ())]
        inner = ("rank", (line(1), line(2)), ("parts", (((2,), ("lot", 1)), ((0,), ("lot", 0)))))
        why = ("parts", (((0, 2), inner), ((1,), ("none",))))
        paper = (entries, ("to", 1), [[], [], []], why)
        up = joined_up(RUNG, SAYING, paper)
        told = ("rank", (line(1), line(1), line(2), line(2)), ("parts", (((3, 4), ("lot", 1)), ((0, 1), ("lot", 0)))))
        self.assertEqual(up[3], ("parts", (((0, 1, 3, 4), told), ((2,), ("none",)))))
        fairer = with_part(BOTH, 3, ("beat", "pull"))
        fairer = with_part(fairer, 2, ((CLOCK[:2] + ((("tick", "beat", (), (), "tick"),),)), DOOR))
        up = joined_up(("more", fairer, LOWER, MEANING), SAYING, paper)
        self.assertEqual(up[3][1][0][1][2], ("parts", (((3, 4), ("lot", 2)), ((0, 1), ("lot", 0)))))

    def test_the_first_machines_places_change_last(self):
        one = ("one", ("a", "b"), (("a", "go", (), (), "b"),))
        other = ("other", ("c", "d", "e"), (("d", "go", (), (), "c"),))
        upper = ((), (), (one, other), ())
        machines = (("low", ("c",), (("c", "go", (), (), "c"),)), ("one", ("a",), (("a", "go", (), (), "a"),)))
        lower = ((), (), machines, ())
        meaning = ((1, (("a", "a"), ("b", "a"))), (0, (("c", "c"), ("d", "c"), ("e", "c"))))
        rung = ("more", upper, lower, meaning)
        self.assertTrue(is_rung(rung))
        saying = ("deed", "go")
        entries = [(("c", "a"), 0, ()), (("c", None), 1, ())]
        up = joined_up(rung, saying, (entries, ("barred",), [[], []], ("none",)))
        places = [("a", "c"), ("a", "d"), ("a", "e"), ("b", "c"), ("b", "d"), ("b", "e")]
        self.assertEqual(up[0], [(some, 0, ()) for some in places] + [((None, one), 1, ()) for one in ("c", "d", "e")])

    def test_a_machine_of_one_place(self):
        # None, or the only place: each fits the other one, below and above.
        one = ("one", ("a",), (("a", "go", (), (), "a"),))
        ring = ("ring", ("p", "q"), (("p", "turn", (), (), "q"), ("q", "turn", (), (), "p")))
        for machines in ((one, ring), (ring, one)):
            upper = ((), (), machines, ())
            rung = together(upper, ("deed", "go"))
            saying = ("always", ("ever", ("yes",)))
            paper = ([((None, None), 0, ()), (tuple(machine[1][0] for machine in rung[2][2]), 0, ())], ("to", 0), [
                [(step, 0, ("to", 1)) for step in steps_from(rung[2], ("a", "p") if machines[0] == one else ("p",
                "a"))],
                [(step, 0, ("to", 0)) for step in steps_from(rung[2], ("a", "p") if machines[0] == one else ("p",
                "a"))],
            ], ("lot", 0))
            self.assertIsNone(look_at_joined(rung[2], saying, paper))
            up = joined_up(rung, saying, paper)
            fans = {step[0]: fan for step, n, fan in up[2][0]}
            # By go nothing is known of the ring: none of its places fits for sure. By turn it is.
            self.assertEqual((fans["go"], fans["rest"], fans["turn"][0]), (("barred",), ("barred",), "to"))
            alone = ((), (), (one,), ())
            rung = together(alone, ("deed", "go"))
            paper = ([((None,), 0, ()), (("a",), 0, ())], ("to", 0), [
                [(step, 0, ("to", 1)) for step in steps_from(alone, ("a",))],
                [(step, 0, ("to", 0)) for step in steps_from(alone, ("a",))]], ("lot", 0))
            self.assertIsNone(look_at_joined(alone, saying, paper))
            self.assertEqual(joined_up(rung, saying, paper), paper)

    def test_not_shown(self):
        for saying in (("place", "door", "ajar"), ("deed", "turn"), ("deed", "rest"), ("place", "clock", "tick"),
                       ("always", ("or", ("place", "door", "wide"), ("yes",)))):
            self.assertIsNone(look_at_saying(BOTH, saying))
            for paper in (self.lower, None, (), 5):
                with self.assertRaises(NotShown):
                    joined_up(RUNG, saying, paper)

    def test_all_is_new(self):
        before = copy.deepcopy(self.lower)
        up = joined_up(RUNG, SAYING, self.lower)
        kept = copy.deepcopy(up)
        self.assertEqual(self.lower, before)
        self.lower[0].clear()
        self.lower[2][0].clear()
        self.assertEqual(up, kept)
        up[0].clear()
        up[2][0].append(None)
        self.assertEqual(joined_up(RUNG, SAYING, before), kept)

    def test_let_by_by_chance(self):
        chance = chance_of(21)
        seen = {}
        for _ in range(140):
            system = some_upper(chance) if chance.random() < 0.5 else some_drifting_system(chance)
            rung = some_rung(chance, system)
            for saying in shown_sayings(chance, rung, 2):
                paper = paper_below(chance, rung, saying)
                if paper is not None:
                    up = joined_up(rung, saying, paper)
                    self.assertIsNone(look_at_joined(system, saying, up), (rung, saying))
                    seen[rung[0]] = seen.get(rung[0], 0) + 1
        self.assertGreater(min(seen["more"], seen["same"]), 15, seen)

    def test_rungs_behind_one_another_by_chance(self):
        chance = chance_of(22)
        many = 0
        for _ in range(60):
            system = some_upper(chance)
            rungs, atoms = [], atoms_over(system)
            saying = some_saying_over(chance, atoms, 3)
            sayings = []
            for make in chance.choices((unasked, together), k=3):
                rungs.append(make(rungs[-1][2] if rungs else system, saying if not rungs else sayings[-1]))
                sayings.append(led_saying(rungs[-1], sayings[-1] if sayings else saying))
            paper = Table(rungs[-1][2], sayings[-1]).paper()
            if paper is None:
                continue
            one = paper
            for rung, above in zip(rungs[::-1], sayings[-2::-1] + [saying]):
                one = joined_up(rung, above, one)
                self.assertIsNone(look_at_joined(rung[1], above, one))
            whole = joined_up(behind_one_another(rungs), saying, paper)
            self.assertIsNone(look_at_joined(system, saying, whole))
            self.assertEqual(sorted(whole[0], key=repr), sorted(one[0], key=repr))
            many += 1
        self.assertGreater(many, 15)

    def test_places_of_any_machine_by_chance(self):
        # Papers of one entry for any places: of `more` rungs, with machines left out or not.
        chance = chance_of(23)
        many = 0
        for _ in range(80):
            system = with_part(with_part(some_system(chance), 1, ()), 3, ())
            if len(all_places(system)) > 60:
                continue
            rung = some_rung(chance, system)
            lower = rung[2]
            any_place = (None,) * len(lower[2])
            steps = {step: True for places in all_places(lower) for step in steps_from(lower, places)}
            # A lap that asks nothing of a saying that holds: its contrary is waited for in vain.
            saying = ("always", ("ever", ("yes",)))
            paper = ([(any_place, 0, ())], ("to", 0), [[(step, 0, ("to", 0)) for step in steps]], ("lot", 0))
            self.assertIsNone(look_at_joined(lower, saying, paper))
            up = joined_up(rung, saying, paper)
            self.assertEqual(up[0], [((None,) * len(system[2]), 0, ())])
            self.assertIsNone(look_at_joined(system, saying, up))
            many += 1
        self.assertGreater(many, 20)


if __name__ == "__main__":
    unittest.main()
