"""Slow holes in a gang that passes by a plan for ever: how late they make it, and how long."""

from hotpass.errors import TooQuick
from hotpass.gangs import CLOSER
from hotpass.line import Line
from hotpass.passing import passed, wanted_by
from hotpass.plans import asked_at, asks_of, keeps


def need_kept(gang, plan):
    if not keeps(gang, plan):
        raise TooQuick(gang.pace())


def lateness(gang, asks, rows):
    """How many beats later than planned the closing of each row of begins begins."""
    through = gang.through()
    return [begins[CLOSER] - ask - through for ask, begins in zip(asks, rows)]


def late_by(gang, plan, holes, many):
    """The list of how many beats later than planned the first many closings begin."""
    need_kept(gang, plan)
    asks = asks_of(plan, many)
    return lateness(gang, asks, [begins for word, begins, beat in passed(gang, asks, holes)])


def course(gang, plan, holes):
    """The begins of the pieces until the rest is known, and whether that goes as planned.

    Each round of the plan's pieces asks alike. So where the hands are as in a line
    without slow holes the rest goes as there; where they are as behind an earlier
    round, what came between comes again and again. One of both comes: a plan that
    is kept gets no later for ever, so the hands can be but in so many ways.
    """
    slow, planned = Line(gang), Line(gang)
    slowed = 0 if holes is None else len(holes)
    rows = []
    seen = set()
    while True:
        done = len(rows)
        for number in range(done, done + plan[1]):
            ask = asked_at(plan, number)
            planned.run(ask)
            rows.append(slow.run(ask, more=wanted_by(holes, number))[1])
        if len(rows) < slowed:
            continue
        base = asked_at(plan, len(rows))
        hands = slow.seen_from(base)
        if hands == planned.seen_from(base):
            return rows, True
        if hands in seen:
            return rows, False
        seen.add(hands)


def made_up(gang, plan, holes):
    """The least number from which on all closings begin as planned, or None."""
    need_kept(gang, plan)
    rows, as_planned = course(gang, plan, holes)
    if not as_planned:
        return None
    lates = lateness(gang, asks_of(plan, len(rows)), rows)
    return max([number + 1 for number, late in enumerate(lates) if late > 0], default=0)


def first_cold(gang, plan, holes, life):
    """The number of the first piece whose closing begins more than life beats behind its drawing, or None."""
    need_kept(gang, plan)
    for number, begins in enumerate(course(gang, plan, holes)[0]):
        if begins[CLOSER] - begins[0] > life:
            return number
    return None
