"""The real machine: a system that stands at places with numbers, and does steps."""

from glassladder.errors import Bare, Barred, NoReads, NoStand, NoStep
from glassladder.moves import (
    boxes_read, first_barred, is_step_of, numbers_behind, places_behind, stands_at, steps_at, wishes_done,
)
from glassladder.shares import is_share
from glassladder.systems import first_places, look_at_system


def are_numbers_of(boxes, thing):
    """Whether anything is a dict with a share for each box, and nothing else."""
    if not isinstance(thing, dict) or len(thing) != len(boxes):
        return False
    return all([box in thing and is_share(thing[box]) for box in boxes])


def in_order(boxes, numbers):
    """The boxes' numbers as a tuple of tuples."""
    return tuple([(box, numbers[box]) for box in boxes])


class Real:
    """A system with places and numbers of now, and the steps done up to here."""

    def __init__(self, system, numbers):
        look_at_system(system)
        boxes, begins = system[:2]
        if not are_numbers_of(boxes, numbers) or first_barred(begins, numbers) is not None:
            raise NoStand("no dict of a share for each box that grants all begins")
        self.machinery = system
        self.places = first_places(system)
        self.numbers = in_order(boxes, numbers)
        # For each step that stands: the step, its reads, and the places and numbers ahead of it.
        self.trail = []

    def do(self, step, *, reads=None):
        """Does a step from here, with a share for each box that it reads."""
        if not is_step_of(self.machinery, step) or not stands_at(self.machinery, self.places, step):
            raise NoStep("no step from these places")
        boxes = boxes_read(self.machinery, step)
        handed = {} if reads is None else reads
        if not are_numbers_of(boxes, handed):
            raise NoReads("no dict of a share for each box that the step reads")
        ahead = dict(self.numbers)
        number = first_barred(wishes_done(self.machinery, step), ahead)
        if number is not None:
            raise Barred(number)
        self.trail.append((step, in_order(boxes, handed), self.places, self.numbers))
        self.numbers = in_order(self.machinery[0], numbers_behind(self.machinery, ahead, step, handed))
        self.places = places_behind(self.machinery, self.places, step)

    def back(self):
        """Takes the last step back."""
        if not self.trail:
            raise Bare("no step is left to take back")
        step, reads, places, numbers = self.trail.pop()
        self.places = places
        self.numbers = numbers

    def stand(self):
        """The places and numbers of now."""
        return (self.places, self.numbers)

    def granted(self):
        """The steps from here of which all wishes are granted."""
        numbers = dict(self.numbers)
        steps = steps_at(self.machinery, self.places)
        return [step for step in steps if first_barred(wishes_done(self.machinery, step), numbers) is None]

    def done(self):
        """All steps that stand, each with its reads."""
        return [(step, reads) for step, reads, places, numbers in self.trail]

    def system(self):
        """The system."""
        return self.machinery

    def twin(self):
        """A Real that stands as this one does, with the same steps to take back."""
        first = self.trail[0][3] if self.trail else self.numbers
        other = Real(self.machinery, dict(first))
        other.places = self.places
        other.numbers = self.numbers
        other.trail = list(self.trail)
        return other

    def __len__(self):
        return len(self.trail)

    def __eq__(self, other):
        return isinstance(other, Real) and self.machinery == other.machinery and self.stand() == other.stand()
