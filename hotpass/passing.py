"""How pieces pass through a gang."""

from hotpass.gangs import KINDS
from hotpass.line import Line


def wanted_by(holes, number):
    """How many beats more the hole of that number wants."""
    return holes[number] if holes is not None and number < len(holes) else 0


def passed(gang, asks, holes=None, missed=None, life=None):
    """A list with, for each piece, its word, its begins and the beat at which it ends."""
    line = Line(gang)
    runs = []
    filled = 0
    for number, ask in enumerate(asks):
        is_missed = missed is not None and number in missed
        told = line.run(ask, is_missed, life, wanted_by(holes, filled))
        runs.append(told)
        if told[0] == "closed":
            filled += 1
    return runs


def is_with(told, kind, beat):
    """Whether the piece of that run is with that kind at that beat."""
    begins, end = told[1], told[2]
    if kind >= len(begins):
        return False
    behind = begins[kind + 1] if kind + 1 < len(begins) else end
    return begins[kind] <= beat < behind


def held(runs, beat):
    """Four lists: the rising numbers of the pieces that are with each kind at that beat."""
    return tuple([[number for number, told in enumerate(runs) if is_with(told, kind, beat)]
                  for kind in range(KINDS)])


def is_same(told, thing):
    """Whether a thing is what was told, of the same kinds all through."""
    if isinstance(told, (list, tuple)):
        # A list is never like a tuple, though either may be handed in elsewhere.
        if not isinstance(thing, (list, tuple)) or isinstance(told, list) != isinstance(thing, list):
            return False
        if len(told) != len(thing):
            return False
        return all([is_same(item, other) for item, other in zip(told, thing)])
    # Python takes True for 1; here it is something else.
    return isinstance(told, bool) == isinstance(thing, bool) and told == thing


def shows_passed(gang, asks, holes, missed, life, thing):
    """Whether a thing is what passed tells of the other arguments."""
    return is_same(passed(gang, asks, holes, missed, life), thing)
