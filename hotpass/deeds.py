"""Deeds: what may be done to a yard, as it is told."""

from hotpass.checks import is_name, is_number
from hotpass.errors import Begun, KnownGang, NoGang, TooMany
from hotpass.gangs import MOST_HANDS, MOST_TAKE, Gang, are_for_kinds

# For each word of a deed the bounds of its numbers, which stand behind the name.
BOUNDS = {
    "put": ((1, 150),),
    "slow": ((0, 10 ** 6), (0, 10 ** 6)),
    "miss": ((0, 10 ** 6),),
    "rest": ((0, 10 ** 9),),
    "paced": ((0, 3), (1, 10 ** 6)),
    "manned": ((0, 3), (0, 4)),
}


def are_takes_and_hands(thing):
    """Whether it has takes and hands, each a tuple as a Gang has it."""
    if len(thing) != 2 or not all([isinstance(item, tuple) for item in thing]):
        return False
    return are_for_kinds(thing[0], MOST_TAKE) and are_for_kinds(thing[1], MOST_HANDS)


def are_within(numbers, bounds):
    """Whether there is a number for each of the bounds, and within them."""
    if len(numbers) != len(bounds):
        return False
    return all([is_number(number, least, most) for number, (least, most) in zip(numbers, bounds)])


def is_deed(thing):
    """Whether it is a deed."""
    if not isinstance(thing, tuple) or len(thing) < 2:
        return False
    word, name = thing[0], thing[1]
    if not isinstance(word, str) or not is_name(name):
        return False
    if word == "joins":
        return are_takes_and_hands(thing[2:])
    return word in BOUNDS and are_within(thing[2:], BOUNDS[word])


def do_deed(yard, deed):
    """Does a deed to a yard."""
    word, name, *parts = deed
    if word == "joins":
        yard.joins(Gang(name, *parts))
    elif word == "put":
        yard.put(name, *parts)
    elif word == "slow":
        yard.slow(name, *parts)
    elif word == "miss":
        yard.miss(name, *parts)
    elif word == "rest":
        yard.rest(name, *parts)
    elif word == "paced":
        yard.paced(name, *parts)
    else:
        yard.manned(name, *parts)


def refusal_of(yard, deed):
    """Does a deed to a yard; tells the name of the class by which it's refused, or None."""
    try:
        do_deed(yard, deed)
    except KnownGang:
        return "KnownGang"
    except TooMany:
        return "TooMany"
    except NoGang:
        return "NoGang"
    except Begun:
        return "Begun"
    return None
