"""Whether a thing that is handed in is of the kind that the document asks for."""

LETTERS = "abcdefghijklmnopqrstuvwxyz"
MOST_LETTERS = 8


def is_number(thing, least, most=None):
    """Whether it is a number from least to most, from least on where most is None."""
    # Python takes True and False for 1 and 0; the document doesn't.
    if not isinstance(thing, int) or isinstance(thing, bool):
        return False
    return least <= thing and (most is None or thing <= most)


def is_row(thing, least, most):
    """Whether it is a list or tuple of least to most things."""
    return isinstance(thing, (list, tuple)) and least <= len(thing) <= most


def is_name(thing):
    """Whether it is a NAME."""
    if not isinstance(thing, str) or not 1 <= len(thing) <= MOST_LETTERS:
        return False
    return all([letter in LETTERS for letter in thing])
