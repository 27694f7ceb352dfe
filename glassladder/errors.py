"""All refusals of the package."""


class GlassError(ValueError):
    """What most refusals stand under."""


class NoShare(GlassError):
    """No share can be made of this thing."""

    def __init__(self, thing):
        GlassError.__init__(self, "no share can be made of this thing")
        self.thing = thing


class NoWishes(GlassError):
    """No list of at most four hundred wishes; number tells which thing is none, or is None."""

    def __init__(self, number):
        GlassError.__init__(self, "no list of at most four hundred wishes")
        self.number = number


class NoSystem(GlassError):
    """No system; part tells where, at which one there, or is None."""

    def __init__(self, part, at):
        GlassError.__init__(self, "no system")
        self.part = part
        self.at = at


class NoStand(GlassError):
    """No numbers to begin with."""


class NoStep(GlassError):
    """No step from these places."""


class NoReads(GlassError):
    """Not just a share for each box that is read."""


class Barred(GlassError):
    """A wish of the step isn't granted; number tells the first one."""

    def __init__(self, number):
        GlassError.__init__(self, "a wish of the step is not granted")
        self.number = number


class NoSaying(GlassError):
    """No saying over the system."""


class NoRound(GlassError):
    """No row that ends in a round."""


class NotShown(GlassError):
    """A saying that a rung doesn't show."""


class NoHelp(GlassError):
    """Nothing that a ladder can go on with."""


class NoLetter(GlassError):
    """No letter by a watcher's atoms."""


class NoWhy(GlassError):
    """Nothing that a watcher can know."""


class NoDeeds(GlassError):
    """No deeds to be done together; number tells the first that is refused, or is None."""

    def __init__(self, number):
        GlassError.__init__(self, "no deeds that can be done together")
        self.number = number


class NoChange(GlassError):
    """Fewer deeds stand than should be taken back."""


class NoText(GlassError):
    """A text that writes none; row tells the first row that is refused, or is None."""

    def __init__(self, row):
        GlassError.__init__(self, "a text that writes none")
        self.row = row


class NoLine(GlassError):
    """No row of words that a desk knows."""


class ByNought(ZeroDivisionError):
    """A share was to be divided by nought."""


class Bare(LookupError):
    """No step is left to take back."""


class NoName(KeyError):
    """Nothing is kept by this name."""


class NoMachine(IndexError):
    """No machine, or no row of it, has this number."""


class Busy(RuntimeError):
    """Something else is under way."""


class NoNumber(KeyError):
    """A name has no number."""

    def __init__(self, name):
        KeyError.__init__(self, "a name has no number")
        self.name = name


class TooMany(OverflowError):
    """More than can be taken; many tells how many."""

    def __init__(self, many):
        OverflowError.__init__(self, "more than can be taken")
        self.many = many
