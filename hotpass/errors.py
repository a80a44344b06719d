"""The refusals of the program, each straight under an error of Python's own."""


class BadMetal(ValueError):
    """A metal can't be so; what is the name of the argument at fault."""

    def __init__(self, what):
        self.what = what


class BadGang(ValueError):
    """A gang can't be so; what is the name of the argument at fault."""

    def __init__(self, what):
        self.what = what


class BadText(ValueError):
    """No thing has this text."""

    def __init__(self, what):
        self.what = what


class BadRow(ValueError):
    """The row of this number isn't written as a row is."""

    def __init__(self, what):
        self.what = what


class BadDeed(TypeError):
    """This is no deed."""

    def __init__(self, what):
        self.what = what


class NoGang(KeyError):
    """No gang is so called."""

    def __init__(self, what):
        self.what = what


class NoTelling(KeyError):
    """No telling of this number stands."""

    def __init__(self, what):
        self.what = what


class KnownGang(LookupError):
    """A gang so called has come already."""

    def __init__(self, what):
        self.what = what


class NoKind(IndexError):
    """This number is no kind of hand."""

    def __init__(self, what):
        self.what = what


class NoPiece(IndexError):
    """There is no piece of this number."""

    def __init__(self, what):
        self.what = what


class TooQuick(ArithmeticError):
    """A plan is quicker than this pace, the best that the gang keeps."""

    def __init__(self, what):
        self.what = what


class Lacks(ArithmeticError):
    """Counts can't be: to these places so many came too many, or too few."""

    def __init__(self, places, many):
        self.places = places
        self.many = many


class TooMany(OverflowError):
    """There would be more than this many."""

    def __init__(self, what):
        self.what = what


class Begun(RuntimeError):
    """The closing, or the throw, of this number is begun already."""

    def __init__(self, what):
        self.what = what
