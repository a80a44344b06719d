"""Rounds by which a shared fire goes on without end."""

from hotpass.checks import is_number
from hotpass.plans import asked_at
from hotpass.shares import SharedFire, common_beats

MOST_BEATS = 240
MOST_ROWS = 1000


def round_of(shares, mouth=1):
    """A round by which none burns, None where some piece burns."""
    fire = SharedFire(shares, mouth)
    rows = fire.settle()
    if rows is None:
        return None
    many = common_beats(shares)
    return (fire.at - many, many, sorted(rows))


def is_frame(shares, thing):
    """Whether it is a tuple of beats that a round of these shares may have, and a list of rows."""
    if not isinstance(thing, tuple) or len(thing) != 3:
        return False
    begin, many, rows = thing
    if not is_number(begin, 0) or not is_number(many, 1, MOST_BEATS):
        return False
    if not all([begin >= share[2] and many % share[0] == 0 for share in shares]):
        return False
    return isinstance(rows, list) and len(rows) <= MOST_ROWS


def is_drawing(shares, begin, many, thing):
    """Whether it is a row of a round: a beat of it, a share, and a piece that is hot then."""
    if not isinstance(thing, tuple) or len(thing) != 3:
        return False
    beat, share, number = thing
    if not is_number(beat, begin, begin + many - 1):
        return False
    if not is_number(share, 0, len(shares) - 1) or not is_number(number, 0):
        return False
    beats, pieces, first, wide = shares[share]
    ask = asked_at((beats, pieces), number, first)
    return ask <= beat <= ask + wide


def are_rising(rows):
    return all([row < other for row, other in zip(rows, rows[1:])])


def stands_for_all(rows, share, each):
    """Whether each piece of the share that is asked in the round or later stands just once.

    A row stands for every piece that is a multiple of each behind its own; and none is
    asked behind the round in which it is drawn, so no row is the first of its kind too late.
    """
    rests = set()
    drawn = [number for beat, other, number in rows if other == share]
    for number in drawn:
        rests.add(number % each)
    return len(drawn) == each and len(rests) == each


def are_within(rows, mouth):
    """Whether no beat has more rows than mouth."""
    often = {}
    for beat, share, number in rows:
        often[beat] = often.get(beat, 0) + 1
    return all([many <= mouth for many in often.values()])


def shows_round(shares, mouth, thing):
    """Whether a thing is a round by which, without end, none burns."""
    if not is_frame(shares, thing):
        return False
    begin, many, rows = thing
    if not all([is_drawing(shares, begin, many, row) for row in rows]):
        return False
    if not are_rising(rows) or not are_within(rows, mouth):
        return False
    return all([stands_for_all(rows, number, share[1] * many // share[0]) for number, share in enumerate(shares)])
