"""A book of a day, told late."""

from hotpass.checks import is_number
from hotpass.days import Day
from hotpass.deeds import is_deed
from hotpass.errors import BadDeed, NoTelling
from hotpass.yard import Yard


class Book:
    """Tellings of deeds, told in any order of their beats."""

    def __init__(self, metal, soak, burn=None, mouth=1, rounds=0):
        self.day = Day(Yard(metal, soak, burn, mouth, rounds))
        # How many numbers were given to tellings, none of which is given again.
        self.given = 0
        # All calls of tell and untell that weren't refused, so that they can be done again.
        self.history = []

    def tell(self, beat, deed):
        """One more telling; its number is told."""
        if not is_deed(deed):
            raise BadDeed(deed)
        number = self.given
        self.given += 1
        self.history.append(("tell", beat, deed))
        self.day.take_up(number, beat, deed)
        return number

    def untell(self, number):
        """The telling of that number stands no more."""
        if number not in self.day.tellings:
            raise NoTelling(number)
        self.history.append(("untell", number))
        self.day.drop(number)

    def yard_at(self, beat):
        """A yard of its own: the day as it is at that beat, its deeds done, nothing of it happened."""
        return self.day.yard_at(beat)

    def happened(self, first, behind):
        """The list of the happenings of the beats from first to ahead of behind."""
        return self.day.happened(first, behind)

    def voids(self):
        """The rising list of the numbers of all void tellings, each with the name of its refusal."""
        return self.day.voids()

    def standing(self):
        """The rising list of the tellings that stand: the number, the beat, the deed."""
        return [(number, beat, deed) for number, (beat, deed) in self.day.tellings.items()]

    def calls(self):
        """How many calls of tell and untell weren't refused."""
        return len(self.history)

    def known(self, many):
        """A book of its own, as this one was behind so many of these calls."""
        if not is_number(many, 0, len(self.history)):
            raise NoTelling(many)
        blank = self.day.blank
        other = Book(blank.metal, blank.soak, blank.burn, blank.mouth, blank.rounds)
        for word, *parts in self.history[:many]:
            if word == "tell":
                other.tell(*parts)
            else:
                other.untell(*parts)
        return other

    def like(self):
        """A book of its own that tells the same."""
        return self.known(self.calls())
