"""Rows of a desk: what each asks for, as far as it is so written."""

from hotpass.checks import is_name, is_number
from hotpass.deeds import is_deed
from hotpass.errors import BadText
from hotpass.texts import gang_in, metal_in, number_in

HANDS = ("heater", "thrower", "holder", "closer")
FAR = 10 ** 12
MOST = 10 ** 6
MOST_MOUTH = 4
MOST_ROUNDS = 9

# What stands behind the word of a deed.
DEEDS = {
    "put": ("name", "number"),
    "slow": ("name", "number", "number"),
    "miss": ("name", "number"),
    "rest": ("name", "number"),
    "paced": ("name", "hand", "number"),
    "manned": ("name", "hand", "number"),
}

# What stands behind the word of a row.
PARTS = {
    "untell": ("number",),
    "where": ("number", "number"),
    "counts": ("number",),
    "holding": ("name", "hand", "number"),
    "gang": ("name", "number"),
    "happened": ("number", "number"),
    "voids": (),
    "calls": (),
    "pace": ("name", "number"),
}


def part_in(word, part):
    """What a word stands for, as such a part of a row, or None."""
    if part == "name":
        return word if is_name(word) else None
    if part == "hand":
        return HANDS.index(word) if word in HANDS else None
    number = number_in(word)
    return number if is_number(number, 0, FAR) else None


def parts_in(words, parts):
    """The list of what words stand for, as these parts of a row, or None."""
    if len(words) != len(parts):
        return None
    found = [part_in(word, part) for word, part in zip(words, parts)]
    return None if None in found else found


def joins_in(text):
    """The deed by which the gang of that text joins, or None."""
    try:
        gang = gang_in(text)
    except BadText:
        return None
    return ("joins", gang.name, gang.takes, gang.hands)


def deed_in(words):
    """The deed that words stand for, or None."""
    if words[0] == "joins":
        return joins_in(" ".join(words[1:]))
    if words[0] not in DEEDS:
        return None
    found = parts_in(words[1:], DEEDS[words[0]])
    return None if found is None else (words[0], *found)


def telling_in(words):
    """The beat and the deed of a telling, or None."""
    if len(words) < 3:
        return None
    beat, deed = number_in(words[1]), deed_in(words[2:])
    if not is_number(beat, 0, MOST) or not is_deed(deed):
        return None
    return [beat, deed]


def row_in(row):
    """The word of a telling or a question and the list of its parts, or None."""
    words = row.split(" ")
    if words[0] == "at":
        found = telling_in(words)
    elif words[0] in PARTS:
        found = parts_in(words[1:], PARTS[words[0]])
    else:
        found = None
    return None if found is None else (words[0], found)


def yard_in(row):
    """What a book is begun with: a metal, soak, burn, mouth, rounds; or None."""
    words = row.split(" ")
    if len(words) < 6 or words[0] != "yard":
        return None
    soak, burn, mouth, rounds = [number_in(word) for word in words[1:5]]
    if not is_number(soak, 0, MOST) or not (words[2] == "never" or is_number(burn, 0, MOST)):
        return None
    if not is_number(mouth, 1, MOST_MOUTH) or not is_number(rounds, 0, MOST_ROUNDS):
        return None
    try:
        metal = metal_in(" ".join(words[5:]))
    except BadText:
        return None
    return (metal, soak, burn, mouth, rounds)
