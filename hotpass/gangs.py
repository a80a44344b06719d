"""Gangs: their hands, and the pace that they keep."""

from hotpass.checks import is_name, is_number, is_row
from hotpass.errors import BadGang, NoKind

KINDS = 4
HEATER = 0
HOLDER = 2
CLOSER = 3
MOST_TAKE = 10 ** 6
MOST_HANDS = 4


def are_for_kinds(thing, most):
    """Whether it has, for each kind of hand, a number from 1 to most."""
    return is_row(thing, KINDS, KINDS) and all([is_number(item, 1, most) for item in thing])


def common_divisor(one, other):
    while other > 0:
        one, other = other, one % other
    return one


def check_kind(kind):
    if not is_number(kind, 0, KINDS - 1):
        raise NoKind(kind)


def replaced(row, kind, item):
    """A list like the row but for its item of that kind."""
    check_kind(kind)
    items = list(row)
    items[kind] = item
    return items


class Gang:
    """Heaters, throwers, holders and closers who pass pieces on to each other."""

    def __init__(self, name, takes, hands=None):
        if not is_name(name):
            raise BadGang("name")
        if not are_for_kinds(takes, MOST_TAKE):
            raise BadGang("takes")
        if hands is not None and not are_for_kinds(hands, MOST_HANDS):
            raise BadGang("hands")
        self.name = name
        self.takes = tuple(takes)
        self.hands = (1, 1, 1, 1) if hands is None else tuple(hands)

    def __len__(self):
        return len(range(sum(self.hands)))

    def __eq__(self, other):
        return (isinstance(other, Gang) and self.name == other.name
                and self.takes == other.takes and self.hands == other.hands)

    def __repr__(self):
        return f"Gang({self.name!r}, {self.takes}, {self.hands})"

    def __str__(self):
        return repr(self)

    def taking(self, kind, take):
        """A Gang in which that kind takes so long, else alike."""
        return Gang(self.name, replaced(self.takes, kind, take), self.hands)

    def handed(self, kind, many):
        """A Gang in which that kind has so many hands, else alike."""
        return Gang(self.name, self.takes, replaced(self.hands, kind, many))

    def through(self):
        """How many beats behind its drawing a piece that never waits begins with the closer."""
        return sum(self.takes[:CLOSER])

    def pace(self):
        """The fewest beats by pieces that the gang can keep for ever, in lowest terms."""
        top, bottom = self.takes[0], self.hands[0]
        for take, many in zip(self.takes, self.hands):
            if take * bottom > top * many:
                top, bottom = take, many
        shared = common_divisor(top, bottom)
        return (top // shared, bottom // shared)

    def binds(self):
        """The rising list of the kinds that let the gang be no quicker than its pace."""
        top, bottom = self.pace()
        return [kind for kind in range(KINDS) if self.takes[kind] * bottom == top * self.hands[kind]]
