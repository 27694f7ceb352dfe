"""Normal forms of sayings, and the ways in which a lot of them can hold from a moment on."""

from glassladder.sayings import ATOMS, YES, atoms_of

NO = ("no",)
# What a word comes to where a not is led through it.
TURNED = {"and": "or", "or": "and", "until": "release"}
HALVED = ("and", "or", "until", "release")


def form_by(saying, atoms, is_so):
    """The normal form of a saying, or of its not where it shouldn't be so."""
    word = saying[0]
    if word == "yes":
        return YES if is_so else NO
    if word in ATOMS:
        return ("is" if is_so else "isnt", atoms.index(saying))
    if word == "not":
        return form_by(saying[1], atoms, not is_so)
    halves = tuple([form_by(half, atoms, is_so) for half in saying[1:]])
    if word == "ever" or word == "always":
        return (("until", YES) if (word == "ever") == is_so else ("release", NO)) + halves
    return (word if is_so else TURNED[word],) + halves


def normal_form(saying):
    """The normal form of a saying by its atoms."""
    return form_by(saying, atoms_of(saying), True)


def contrary_form(saying):
    """The normal form of a saying's not."""
    return form_by(saying, atoms_of(saying), False)


def halves_of(form):
    """What stands in a form behind its word, where that joins two."""
    return form[1:] if form[0] in HALVED else ()


def untils_in(form):
    """The untils in a form, each once, as they begin."""
    untils = [form] if form[0] == "until" else []
    for half in halves_of(form):
        untils.extend([until for until in untils_in(half) if until not in untils])
    return untils


def forms_in(form):
    """A form and all within it."""
    forms = [form]
    for half in halves_of(form):
        forms.extend(forms_in(half))
    return forms


def forms_of_lot(lot):
    """All forms in a lot and within them, each once, none behind one that stands within it."""
    # What stands within a form is smaller than it is.
    sizes = {within: len(forms_in(within)) for form in lot for within in forms_in(form)}
    return sorted(list(sizes), key=lambda one: -sizes[one])


def opened(form):
    """The choices that a form leaves, as tuples (now, later): what it comes to now, and whether to itself later."""
    word = form[0]
    if word == "no":
        return []
    if word == "and":
        return [(form[1:], False)]
    if word == "or":
        return [((form[1],), False), ((form[2],), False)]
    if word == "until":
        return [((form[2],), False), ((form[1],), True)]
    if word == "release":
        return [(form[1:], False), ((form[2],), True)]
    return [((), False)]


def with_one(some, one):
    """A rising tuple with one more in it, if it isn't there."""
    return some if one in some else tuple(sorted(some + (one,)))


def with_ask(asks, form):
    """The asks with what a form asks; None where they contradict it."""
    if form[0] != "is" and form[0] != "isnt":
        return asks
    n, truth = form[1], form[0] == "is"
    return None if (n, not truth) in asks else with_one(asks, (n, truth))


def ways_on(state, forms, at, untils):
    """The states (pending, asks, later, put) come to from a state by opening the form with this number."""
    pending, asks, later, put = state
    if at not in pending:
        return [state]
    form = forms[at]
    more = with_ask(asks, form)
    if more is None:
        return []
    come_to = []
    for now, itself in opened(form):
        left = tuple([number for number in pending if number != at])
        for half in now:
            left = with_one(left, forms.index(half))
        put_off = with_one(put, untils.index(form)) if itself and form[0] == "until" else put
        come_to.append((left, more, with_one(later, at) if itself else later, put_off))
    return come_to


def ways(lot, untils):
    """The ways (asks, later, put) in which all forms of a lot can hold, by the list of the untils."""
    forms = forms_of_lot(lot)
    # Each form is opened when all those are in which it stands: so none is ever opened twice.
    states = [(tuple(sorted([forms.index(form) for form in lot])), (), (), ())]
    for at in range(len(forms)):
        come_to = {other: True for state in states for other in ways_on(state, forms, at, untils)}
        states = list(come_to)
    return sorted([
        (asks, tuple(sorted([forms[number] for number in later])), put) for pending, asks, later, put in states
    ])
