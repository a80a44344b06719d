"""Papers which show that the number of a line follows of a sheet, or that it doesn't."""

from hotpass.checks import is_number
from hotpass.sheets import ends_of, side_of, untold, ways_from


def places_for(sheet, line):
    """Places by which the number of a line that isn't told follows, or None."""
    return side_of(sheet, line)


def ring_for(sheet, line):
    """A ring of lines that aren't told by which the number of one of them may be any, or None."""
    ends = ends_of(sheet)
    one, other = ends[line]
    came_by = ways_from(sheet, other, line)
    if one not in came_by:
        return None
    ring = [(line, 1)]
    place = one
    while came_by[place] is not None:
        number = came_by[place]
        first, last = ends[number]
        # The ring goes on from the place that the line was come from.
        ring.append((number, 1 if last == place else -1))
        place = first if last == place else last
    return ring


def are_counted(sheet, thing):
    """Whether it is a tuple of counted places, rising."""
    if not isinstance(thing, tuple):
        return False
    counted = {place: True for place, more in sheet[1]}
    if not all([isinstance(place, str) and place in counted for place in thing]):
        return False
    return all([place < behind for place, behind in zip(thing, thing[1:])])


def shows_places(sheet, line, thing):
    """Whether a thing is places by which the number of the line follows."""
    if not are_counted(sheet, thing):
        return False
    ends = ends_of(sheet)
    leading = [number for number in untold(sheet) if (ends[number][0] in thing) != (ends[number][1] in thing)]
    return leading == [line]


def is_link(sheet, thing):
    """Whether it is a pair of a line that isn't told, and a sign."""
    if not isinstance(thing, tuple) or len(thing) != 2:
        return False
    number, sign = thing
    if not is_number(number, 0, len(sheet[0]) - 1) or not is_number(sign, -1, 1):
        return False
    return sheet[0][number][2] is None and sign != 0


def are_even(sheet, ring):
    """Whether in each counted place the signs that come there are together those that go."""
    came = {place: 0 for place, more in sheet[1]}
    for number, sign in ring:
        one, other, many = sheet[0][number]
        if one in came:
            came[one] -= sign
        if other in came:
            came[other] += sign
    return all([many == 0 for many in came.values()])


def shows_ring(sheet, line, thing):
    """Whether a thing is a ring by which the number of the line may be any."""
    if not isinstance(thing, list) or not all([is_link(sheet, link) for link in thing]):
        return False
    numbers = [number for number, sign in thing]
    if line not in numbers or len(set(numbers)) < len(numbers):
        return False
    return are_even(sheet, thing)
