"""Sheets looked at in the plainest way, against which the tests hold what the program tells of them."""

import itertools
import random
from fractions import Fraction

PLACES = ("ann", "b", "bob", "cy", "di", "e")


def came_less_went(lines, places):
    """What came to places less what went by the lines that are told."""
    came = sum(many for one, other, many in lines if many is not None and other in places)
    return came - sum(many for one, other, many in lines if many is not None and one in places)


def leading(lines, places):
    """The lines that aren't told and lead from one of the places to one that is none of them, or back."""
    return [number for number, (one, other, many) in enumerate(lines)
            if many is None and len({one, other} & set(places)) == 1]


def rising_tuples(sheet):
    """All rising tuples of counted places, those of the fewest places first, of like ones the least."""
    names = sorted(place for place, _ in sheet[1])
    for size in range(len(names) + 1):
        yield from itertools.combinations(names, size)


def plain_lack(sheet):
    """What lack_of tells: all tuples of counted places are tried, in their order."""
    lines, counted = sheet
    for places in rising_tuples(sheet):
        many = came_less_went(lines, places) - sum(more for place, more in counted if place in places)
        if many != 0 and not leading(lines, places):
            return (places, many)
    return None


def lacking(sheet):
    """How many tuples of counted places lack."""
    lines, counted = sheet
    return len([places for places in rising_tuples(sheet) if not leading(lines, places)
                and came_less_went(lines, places) != sum(more for place, more in counted if place in places)])


def equations(sheet):
    """For each counted place the factors of the lines that aren't told, and what these must come to."""
    lines, counted = sheet
    for place, more in counted:
        row = [Fraction((other == place) - (one == place)) for one, other, many in lines if many is None]
        yield row + [Fraction(more - came_less_went(lines, (place,)))]


def solved(rows, many):
    """The equations by which each line stands alone, as far as it can; None where they can't be."""
    done = []
    for column in range(many):
        found = next((row for row in rows if row[column] != 0), None)
        if found is None:
            continue
        rows.remove(found)
        found = [item / found[column] for item in found]
        rows = [[a - row[column] * b for a, b in zip(row, found)] for row in rows]
        done = [[a - row[column] * b for a, b in zip(row, found)] for row in done] + [found]
    return None if any(row[-1] != 0 for row in rows) else done


def plain_follows(sheet):
    """What follows tells, by solving all equations; None where they can't be."""
    lines = sheet[0]
    open_lines = [number for number, line in enumerate(lines) if line[2] is None]
    done = solved(list(equations(sheet)), len(open_lines))
    if done is None:
        return None
    told = [line[2] for line in lines]
    for row in done:
        standing = [at for at, factor in enumerate(row[:-1]) if factor != 0]
        if len(standing) == 1:
            assert row[-1].denominator == 1
            told[open_lines[standing[0]]] = int(row[-1])
    return told


def plainly_shows_places(sheet, line, thing):
    if thing.__class__ is not tuple or any(place.__class__ is not str for place in thing):
        return False
    return thing in list(rising_tuples(sheet)) and leading(sheet[0], thing) == [line]


def plainly_shows_ring(sheet, line, thing):
    if thing.__class__ is not list:
        return False
    for pair in thing:
        if pair.__class__ is not tuple or [item.__class__ for item in pair] != [int, int]:
            return False
        if pair[0] not in range(len(sheet[0])) or sheet[0][pair[0]][2] is not None or pair[1] not in (1, -1):
            return False
    if sorted({number for number, _ in thing}) != sorted(number for number, _ in thing):
        return False
    signs = dict(thing)
    comes = [(one, other, signs.get(number, 0)) for number, (one, other, _) in enumerate(sheet[0])]
    return line in signs and all(came_less_went(comes, (place,)) == 0 for place, _ in sheet[1])


def some_sheet(chance, most_places=6, most_lines=9, most=9):
    """A sheet that can be, unless it is spoilt now and then; numbers of lines that aren't told below 0 too."""
    names = PLACES[:chance.randint(2, most_places)]
    silent = chance.choice((0.1, 0.3, 0.5, 0.8))
    lines, real = [], []
    for _ in range(chance.randint(0, most_lines)):
        one, other = chance.sample(names, 2)
        is_told = chance.random() > silent
        real.append((one, other, chance.randint(0 if is_told else -most, most)))
        lines.append((one, other, real[-1][2] if is_told else None))
    counted = [(place, came_less_went(real, (place,))) for place in names if chance.random() < 0.8]
    if chance.random() < 0.2:
        counted.append(("zoe", 0))
    chance.shuffle(counted)
    for _ in range(chance.choice((0, 0, 1, 2, 3)) if counted else 0):
        at = chance.randrange(len(counted))
        counted[at] = (counted[at][0], counted[at][1] + chance.randint(-2, 2))
    return (lines, counted)


def some_sheets(many, seed, **bounds):
    chance = random.Random(seed)
    for _ in range(many):
        yield some_sheet(chance, **bounds)
