"""Metals, and how long their pieces stay hot."""

from hotpass.checks import is_number, is_row
from hotpass.errors import BadMetal

MOST = 10 ** 6
MOST_LOSSES = 6


def is_loss(thing):
    if not isinstance(thing, tuple) or len(thing) != 2:
        return False
    return is_number(thing[0], 1, MOST) and is_number(thing[1], 0, MOST)


def are_losses(thing):
    return is_row(thing, 1, MOST_LOSSES) and all([is_loss(pair) for pair in thing])


def beats_to_lose(heat, loss):
    """How many beats it takes to lose that much heat, a part of a beat counted whole."""
    return (heat + loss - 1) // loss


class Metal:
    """What pieces are made of: how hot they leave the fire and how they cool."""

    def __init__(self, full, least, losses, air=0):
        if not is_number(full, 0, MOST):
            raise BadMetal("full")
        if not is_number(least, 0, full):
            raise BadMetal("least")
        if not is_number(air, 0, full):
            raise BadMetal("air")
        if not are_losses(losses):
            raise BadMetal("losses")
        self.full = full
        self.least = least
        self.losses = tuple([(many, loss) for many, loss in losses])
        self.air = air

    def __eq__(self, other):
        return (isinstance(other, Metal) and self.full == other.full and self.least == other.least
                and self.losses == other.losses and self.air == other.air)

    def __repr__(self):
        return f"Metal({self.full}, {self.least}, {self.losses}, {self.air})"

    def __str__(self):
        return repr(self)

    def heat(self, beats=0):
        """The heat of a piece so many beats behind the fire."""
        left = beats
        lost = 0
        for many, loss in self.losses[:-1]:
            spent = min(left, many)
            lost += spent * loss
            left -= spent
        # The last pair holds for ever, whatever its own many.
        lost += left * self.losses[-1][1]
        return max(self.air, self.full - lost)

    def life(self):
        """The most beats behind which a piece is hot; None where it stays so for ever."""
        too_cold = self.cools_to(self.least - 1)
        if too_cold is None:
            return None
        return too_cold - 1

    def cools_to(self, heat):
        """The least number of beats behind which a piece has that heat or less, or None."""
        if heat >= self.full:
            return 0
        if heat < self.air:
            return None
        left = self.full - heat
        beats = 0
        for many, loss in self.losses[:-1]:
            if many * loss >= left:
                return beats + beats_to_lose(left, loss)
            left -= many * loss
            beats += many
        loss = self.losses[-1][1]
        if loss == 0:
            return None
        return beats + beats_to_lose(left, loss)
