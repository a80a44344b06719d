"""The hands of a gang, one piece after the other."""

from hotpass.gangs import HOLDER, KINDS


class Line:
    """A gang's hands, as the pieces that have run through them leave them.

    No piece is ready, or finds a hand free, ahead of an earlier one: so none passes
    another, nothing need be kept to see to that, and each run follows of the earlier
    ones alone.
    """

    def __init__(self, gang):
        self.takes = gang.takes
        # For each hand of a kind the beat from which on it is free, rising.
        self.free_from = [[0] * many for many in gang.hands]

    def run(self, ask, missed=False, life=None, more=0):
        """The run of the next piece, whose hole, where it comes to one, wants more beats."""
        begins = []
        ready = ask
        for kind in range(KINDS):
            beat = max(ready, self.free_from[kind][0])
            if begins and life is not None and beat > begins[0] + life:
                return self.ended("cold", begins, begins[0] + life + 1)
            if kind == HOLDER and missed:
                return self.ended("missed", begins, beat)
            begins.append(beat)
            ready = beat + self.takes[kind]
        return self.ended("closed", begins, ready + more)

    def ended(self, word, begins, beat):
        """The run that ends so; the hands are as the piece leaves them then."""
        for kind, end in enumerate(begins[1:] + [beat]):
            self.free_from[kind] = sorted(self.free_from[kind][1:] + [end])
        return (word, tuple(begins), beat)

    def seen_from(self, base):
        """All of which later runs follow, in beats behind base."""
        return tuple([beat - base for beats in self.free_from for beat in beats])
