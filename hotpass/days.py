"""The day of a book: a new yard to which tellings are done at their beats."""

from hotpass.deeds import refusal_of

MOST_LEAPS = 50


class Mark:
    """The day as it is at a beat, its deeds done, and what came with it."""

    def __init__(self, yard, told, refused):
        self.yard = yard
        # What has happened since the mark ahead.
        self.told = told
        # The numbers of the void tellings of this beat, each with its word.
        self.refused = refused


class Day:
    """Tellings that stand, and marks on the way through the day that they make.

    A question begins with the last mark ahead of it, not with the first beat. A telling
    changes nothing ahead of its beat, so the marks ahead of that stay.
    """

    def __init__(self, yard):
        self.blank = yard
        # By its number, rising, each telling's beat and deed.
        self.tellings = {}
        self.marks = []

    def take_up(self, number, beat, deed):
        """That telling stands from now on; its number is above all others."""
        self.tellings[number] = (beat, deed)
        self.forget_from(beat)

    def drop(self, number):
        """That telling stands no more."""
        beat, deed = self.tellings.pop(number)
        self.forget_from(beat)

    def forget_from(self, beat):
        self.marks = [mark for mark in self.marks if mark.yard.now() < beat]

    def yard_at(self, beat):
        """A yard of its own, the day as it is at that beat."""
        self.reach(beat)
        ahead = [mark for mark in self.marks if mark.yard.now() <= beat]
        yard = ahead[-1].yard.like()
        yard.go(beat - yard.now())
        return yard

    def happened(self, first, behind):
        """The happenings of the beats from first to ahead of behind."""
        self.reach(behind)
        return [row for mark in self.marks for row in mark.told if first <= row[0] < behind]

    def voids(self):
        """The rising list of the numbers of all void tellings, each with its word."""
        self.reach(max([beat for beat, deed in self.tellings.values()], default=0))
        return sorted([row for mark in self.marks for row in mark.refused])

    def reach(self, beat):
        """Sets marks until one is at that beat or behind it, or nothing comes any more."""
        while not self.marks or self.marks[-1].yard.now() < beat:
            mark = self.next_mark()
            if mark is None:
                break
            self.marks.append(mark)

    def next_mark(self):
        """The mark behind the last one, or None where nothing comes any more."""
        if not self.marks:
            return self.marked(self.blank.like(), [])
        yard = self.marks[-1].yard.like()
        stop = self.next_told(yard.now())
        told = leap_on(yard, stop)
        if stop is None and not told:
            return None
        return self.marked(yard, told)

    def next_told(self, beat):
        """The beat of the first telling behind a beat, or None."""
        return min([other for other, deed in self.tellings.values() if other > beat], default=None)

    def marked(self, yard, told):
        """A mark of a yard at a beat whose deeds aren't done yet: they are done now."""
        refused = []
        for number, (beat, deed) in self.tellings.items():
            if beat == yard.now():
                word = refusal_of(yard, deed)
                if word is not None:
                    refused.append((number, word))
        return Mark(yard, told, refused)


def leap_on(yard, stop):
    """Leaps some times, up to stop where there is one; tells what happens."""
    told = []
    for leap in range(MOST_LEAPS):
        found = yard.leap_ahead_of(stop)
        told.extend(found)
        if not found:
            if stop is not None:
                yard.go(stop - yard.now())
            break
    return told
