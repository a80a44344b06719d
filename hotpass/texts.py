"""Texts of gangs and metals."""

from hotpass.errors import BadGang, BadMetal, BadText
from hotpass.gangs import KINDS, Gang
from hotpass.metals import Metal

FIGURES = "0123456789"
# As many as the greatest number has that is written anywhere, 10 ** 12.
MOST_FIGURES = 13


def number_in(word):
    """The number that a word of plain figures is, or None."""
    if not 1 <= len(word) <= MOST_FIGURES or not all([figure in FIGURES for figure in word]):
        return None
    if word[0] == "0" and word != "0":
        return None
    return int(word)


def joined(parts):
    """Parts of a row, parted by one blank."""
    return " ".join([str(part) for part in parts])


def gang_text(gang):
    """The text of a gang: its name, its takes, its hands where some kind has more than one."""
    if max(gang.hands) > 1:
        return joined((gang.name,) + gang.takes + gang.hands)
    return joined((gang.name,) + gang.takes)


def gang_in(text):
    """The Gang of which that is the text."""
    name, *words = text.split(" ")
    numbers = [number_in(word) for word in words]
    takes = numbers[:KINDS]
    hands = numbers[KINDS:] if len(numbers) > KINDS else None
    try:
        gang = Gang(name, takes, hands)
    except BadGang:
        raise BadText(text) from None
    # A gang has but one text: hands are left out where there is one of each.
    if gang_text(gang) != text:
        raise BadText(text)
    return gang


def metal_text(metal):
    """The text of a metal: its full, least and air, then its losses."""
    losses = [f"{many}:{loss}" for many, loss in metal.losses]
    return joined([metal.full, metal.least, metal.air] + losses)


def loss_in(word):
    many, colon, loss = word.partition(":")
    return (number_in(many), number_in(loss))


def metal_in(text):
    """The Metal of which that is the text."""
    words = text.split(" ")
    if len(words) < 4:
        raise BadText(text)
    full, least, air = [number_in(word) for word in words[:3]]
    losses = [loss_in(word) for word in words[3:]]
    try:
        metal = Metal(full, least, losses, air)
    except BadMetal:
        raise BadText(text) from None
    return metal
