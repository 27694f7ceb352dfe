"""Made machines: of a saying, one that takes just the rows of letters by which it doesn't hold."""

from glassladder.errors import NoRound
from glassladder.forms import HALVED, NO, contrary_form, halves_of, untils_in, ways
from glassladder.rounds import is_round
from glassladder.sayings import YES, atoms_of
from glassladder.shares import is_below, is_whole
from glassladder.systems import is_tuple_of
from glassladder.whys import sought


def kept_by(put, many):
    """The numbers of all untils that aren't put off."""
    return tuple([number for number in range(many) if number not in put])


def made_of(saying):
    """The made machine of a saying, and its paper."""
    form = contrary_form(saying)
    untils = untils_in(form)
    lots = [(form,)]
    stands = {(form,): 0}
    choices = []
    while len(choices) < len(lots):
        lot = lots[len(choices)]
        here = []
        for asks, later, put in ways(lot, untils):
            if later not in stands:
                stands[later] = len(lots)
                lots.append(later)
            here.append((asks, stands[later], kept_by(put, len(untils))))
        choices.append(tuple(here))
    return ((tuple(choices), len(untils)), tuple(lots))


def machine_of(saying):
    """The made machine of a saying."""
    return made_of(saying)[0]


def paper_of(saying):
    """The lots of the stands of a saying's made machine."""
    return made_of(saying)[1]


def is_form(thing, many, untils):
    """Whether anything is a normal form by so many atoms, no until in it being another one than these."""
    if not isinstance(thing, tuple) or thing == ():
        return False
    if thing[0] == "is" or thing[0] == "isnt":
        return len(thing) == 2 and is_below(thing[1], many)
    if thing[0] not in HALVED:
        return thing == YES or thing == NO
    if len(thing) != 3 or not all([is_form(half, many, untils) for half in halves_of(thing)]):
        return False
    return thing[0] != "until" or thing in untils


def is_lot(thing, many, untils):
    """Whether anything is a lot of such forms."""
    if not isinstance(thing, tuple) or not all([is_form(form, many, untils) for form in thing]):
        return False
    return all([one < other for one, other in zip(thing, thing[1:])])


def is_ask(thing):
    """Whether anything is a number and a truth."""
    return is_tuple_of(thing, 2, 2) and is_whole(thing[0]) and isinstance(thing[1], bool)


def is_choice(thing, stands):
    """Whether anything is by its form a choice that leads to one of so many stands."""
    if not is_tuple_of(thing, 3, 3) or not isinstance(thing[0], tuple) or not isinstance(thing[2], tuple):
        return False
    asks, to, kept = thing
    return all([is_ask(ask) for ask in asks]) and is_below(to, stands) and all([is_whole(n) for n in kept])


def are_choices(thing, lots, lot, untils):
    """Whether anything is a tuple of choices, one for each way of the lot, to stands whose lots are later."""
    if not isinstance(thing, tuple) or not all([is_choice(choice, len(lots)) for choice in thing]):
        return False
    led = [(asks, lots[to], kept) for asks, to, kept in thing]
    told = [(asks, later, kept_by(put, len(untils))) for asks, later, put in ways(lot, untils)]
    return sorted(led) == sorted(told)


def is_paper(saying, machine, thing):
    """Whether anything is a paper of anything as the made machine of a saying."""
    form = contrary_form(saying)
    untils = untils_in(form)
    many = len(atoms_of(saying))
    if not is_tuple_of(machine, 2, 2) or not is_whole(machine[1]) or machine[1] != len(untils):
        return False
    choices = machine[0]
    if not isinstance(choices, tuple) or choices == () or not is_tuple_of(thing, len(choices), len(choices)):
        return False
    if not all([is_lot(lot, many, untils) for lot in thing]) or thing[0] != (form,):
        return False
    return all([are_choices(some, thing, lot, untils) for some, lot in zip(choices, thing)])


def first_length(thing):
    """How long the first letter of the lap is, of anything that has one; else None."""
    if not is_tuple_of(thing, 2, 2) or not isinstance(thing[1], list) or thing[1] == []:
        return None
    letter = thing[1][0]
    return len(letter) if isinstance(letter, tuple) else None


def asked_numbers(machine):
    """The numbers of all atoms that some choice asks."""
    return [n for some in machine[0] for asks, to, kept in some for n, truth in asks]


def look_at_row(machine, thing):
    """Refuses what is no row of letters that ends in a round, with all truths that the machine asks."""
    many = first_length(thing)
    if many is None or not is_round(thing, many) or not all([n < many for n in asked_numbers(machine)]):
        raise NoRound("no row of letters that ends in a round, with all truths that are asked")


def grants(letter, asks):
    """Whether a letter tells just what is asked."""
    return all([letter[n] == truth for n, truth in asks])


def ties_along(machine, letters, again):
    """How many pairs of a moment and a stand are come to, and the ties among them, by choices that letters grant."""
    numbers = {(0, 0): 0}
    queue = [(0, 0)]
    ties = []
    at = 0
    while at < len(queue):
        moment, stand = queue[at]
        later = moment + 1 if moment + 1 < len(letters) else again
        for asks, to, kept in machine[0][stand]:
            if grants(letters[moment], asks):
                if (later, to) not in numbers:
                    numbers[(later, to)] = len(queue)
                    queue.append((later, to))
                ties.append((at, numbers[(later, to)], kept))
        at += 1
    return (len(queue), ties)


def takes(machine, thing):
    """Whether a made machine takes a row of letters that ends in a round."""
    look_at_row(machine, thing)
    stem, lap = thing
    count, ties = ties_along(machine, stem + lap, len(stem))
    return sought(count, [0], ties, machine[1])[0] == "lap"
