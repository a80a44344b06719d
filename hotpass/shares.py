"""Gangs that share a fire for ever."""

from hotpass.gangs import common_divisor
from hotpass.plans import asked_at


def common_beats(shares):
    """The fewest beats that are a multiple of each share's beats."""
    many = 1
    for beats, pieces, first, wide in shares:
        many = many // common_divisor(many, beats) * beats
    return many


class SharedFire:
    """A fire whose pieces are drawn beat by beat, as long as none burns.

    The pieces of a share are drawn in their order, so that it is enough to know of each
    share which piece is its next.
    """

    def __init__(self, shares, mouth):
        self.shares = [tuple(share) for share in shares]
        self.mouth = mouth
        self.at = 0
        self.numbers = [0] * len(shares)
        self.asks = [share[2] for share in self.shares]
        self.wait = 0
        # The first share of which a piece, its next, burns.
        self.burning = None

    def last_of(self, share):
        return self.asks[share] + self.shares[share][3]

    def draw_one(self):
        """Draws the hot piece of the least last; tells its share, None where none is hot."""
        hot = [(self.last_of(share), share) for share, ask in enumerate(self.asks) if ask <= self.at]
        if not hot:
            return None
        share = min(hot)[1]
        beats, pieces, first, wide = self.shares[share]
        self.wait = max(self.wait, self.at - self.asks[share])
        self.numbers[share] += 1
        self.asks[share] = asked_at((beats, pieces), self.numbers[share], first)
        return share

    def draw(self):
        """Goes through a beat; tells the rows (beat, share, piece) of what is drawn."""
        rows = []
        while len(rows) < self.mouth:
            share = self.draw_one()
            if share is None:
                break
            rows.append((self.at, share, self.numbers[share] - 1))
        late = [share for share in range(len(self.shares)) if self.last_of(share) <= self.at]
        if late:
            self.burning = late[0]
        self.at += 1
        return rows

    def draw_up_to(self, end):
        """Goes on up to that beat, or until a piece burns; tells the rows."""
        rows = []
        while self.at < end and self.burning is None:
            rows.extend(self.draw())
        return rows

    def ahead(self):
        """How far each share is ahead of its plan, in parts of a beat: all that later beats follow of."""
        return [number * share[0] - self.at * share[1] for number, share in zip(self.numbers, self.shares)]

    def settle(self):
        """Goes on until common beats leave all as it was; tells their rows, None where a piece burns.

        This comes about: how many pieces wait in all falls until it is the same behind
        each round of common beats, and as none waits longer than the widest share, which
        ones these are follows then of what was asked since, which is the same each time.
        """
        self.draw_up_to(max(self.asks))
        many = common_beats(self.shares)
        while self.burning is None:
            before = self.ahead()
            rows = self.draw_up_to(self.at + many)
            if self.burning is None and self.ahead() == before:
                return rows
        return None


def for_ever(shares, mouth=1):
    """The first piece that burns; or the most beats that any piece waits, where none ever does."""
    fire = SharedFire(shares, mouth)
    if fire.settle() is None:
        return ("burnt", fire.burning, fire.numbers[fire.burning])
    return ("kept", fire.wait)
