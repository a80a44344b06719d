"""Sheets of counts: what lacks in them, and what follows of them."""

from hotpass.errors import Lacks

# All places that aren't counted are as one, for nothing is known of any of them. No NAME is so.
OUTSIDE = ""


def ends_of(sheet):
    """For each line the places that it leads from and to, OUTSIDE for one that isn't counted."""
    lines, counted = sheet
    inside = {place: True for place, more in counted}
    return [(one if one in inside else OUTSIDE, other if other in inside else OUTSIDE)
            for one, other, many in lines]


def untold(sheet):
    """The rising list of the numbers of the lines that aren't told."""
    return [number for number, (one, other, many) in enumerate(sheet[0]) if many is None]


def ways_from(sheet, start, left_out=None):
    """Each place to which lines that aren't told lead from a place, but for one that is left out.

    With each stands the line by which it was come to; with the place itself, None.
    """
    ends = ends_of(sheet)
    numbers = [number for number in untold(sheet) if number != left_out]
    came_by = {start: None}
    waiting = [start]
    while waiting:
        place = waiting.pop()
        for number in numbers:
            if place not in ends[number]:
                continue
            one, other = ends[number]
            beyond = other if place == one else one
            if beyond not in came_by:
                came_by[beyond] = number
                waiting.append(beyond)
    return came_by


def surplus(sheet, places):
    """What came to places by told lines less what went, less their more together."""
    lines, counted = sheet
    many_more = -sum([more for place, more in counted if place in places])
    for one, other, many in lines:
        # Within the places a line brings as much as it takes.
        if many is None or (one in places) == (other in places):
            continue
        many_more += many if other in places else -many
    return many_more


def lack_of(sheet):
    """None where the counts can be; else the fewest places, and how many came too many there."""
    found = []
    for place, more in sheet[1]:
        places = tuple(sorted(ways_from(sheet, place)))
        if OUTSIDE in places:
            continue
        many = surplus(sheet, places)
        # Of places that lack together, but hang together by no line, some lack alone.
        if many != 0:
            found.append((len(places), places, many))
    if not found:
        return None
    size, places, many = min(found)
    return (places, many)


def side_of(sheet, line):
    """Counted places, rising, that of all lines not told just this one leads to or from, or None."""
    one, other = ends_of(sheet)[line]
    for start, end in ((one, other), (other, one)):
        places = sorted(ways_from(sheet, start, line))
        if end in places:
            return None
        if OUTSIDE not in places:
            return tuple(places)
    return None


def number_of(sheet, line):
    """The number of a line where it's told, or can be but one, else None."""
    one, other, many = sheet[0][line]
    if many is not None:
        return many
    places = side_of(sheet, line)
    if places is None:
        return None
    return -surplus(sheet, places) if other in places else surplus(sheet, places)


def follows(sheet):
    """For each line its number where it's told, or can be but one, else None."""
    lack = lack_of(sheet)
    if lack is not None:
        raise Lacks(lack[0], lack[1])
    return [number_of(sheet, line) for line in range(len(sheet[0]))]
