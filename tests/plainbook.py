"""A book in the plainest way: for each question the whole day is walked through, beat by beat."""

from hotpass.gangs import Gang
from hotpass.metals import Metal
from tests.plainyard import PlainYard, some_yard

METALS = [Metal(100, 10, [(1, 5)]), Metal(100, 50, [(1, 5)]), Metal(100, 90, [(1, 5)]), Metal(10, 0, [(1, 0)]),
          Metal(100, 99, [(1, 2)]), Metal(100, 60, [(3, 1), (1, 4)])]
NAMES = ("bob", "ann", "cy", "di", "eve", "fay", "gus", "hal")
VOID_WORDS = {"KnownGang", "TooMany", "NoGang", "Begun"}


def refusal(yard, deed):
    """The word of the refusal that is due for a deed; None where it can be done."""
    word, name = deed[:2]
    if word == "joins":
        return "KnownGang" if name in yard.gangs else "TooMany" if len(yard.gangs) == 6 else None
    if name not in yard.gangs:
        return "NoGang"
    if word == "put" and len(yard.all) + deed[2] > 150:
        return "TooMany"
    if word == "slow" and deed[2] < yard.gangs[name]["begun"] or word == "miss" and deed[2] < yard.gangs[name]["thrown"]:
        return "Begun"
    return None


def do(yard, deed):
    """Does a deed to a yard, a plain one too."""
    if deed[0] == "joins":
        yard.joins(Gang(*deed[1:]))
    else:
        getattr(yard, deed[0])(*deed[1:])


class PlainBook:
    def __init__(self, *args):
        self.args = args
        self.all = []
        self.gone = set()

    def tell(self, beat, deed):
        self.all.append((beat, deed))
        return len(self.all) - 1

    def untell(self, number):
        self.gone.add(number)

    def standing(self):
        return [(number, *row) for number, row in enumerate(self.all) if number not in self.gone]

    def day(self, end):
        """The yard at a beat, its deeds done, what has happened up to there, and the voids up to there."""
        yard, told, voids = PlainYard(*self.args), [], []
        while True:
            for number, beat, deed in self.standing():
                if beat == yard.t:
                    word = refusal(yard, deed)
                    if word is None:
                        do(yard, deed)
                    else:
                        voids.append((number, word))
            if yard.t == end:
                return yard, told, sorted(voids)
            told += yard.beat()


def some_deed(chance, names):
    name, kind = chance.choice(names), chance.randint(0, 3)
    takes, hands = [tuple(chance.choice(row) for _ in range(4)) for row in ((1, 2, 3, 6), (1, 1, 2, 4))]
    return chance.choice((
        ("joins", name, takes, hands), ("joins", name, takes, (1, 1, 1, 1)),
        ("put", name, chance.randint(1, 4)), ("put", name, chance.randint(1, 4)), ("put", name, chance.choice((1, 2, 5, 150))),
        ("slow", name, chance.randint(0, 6), chance.randint(0, 12)), ("miss", name, chance.randint(0, 6)),
        ("rest", name, chance.choice((0, 2, 9, 30))), ("paced", name, kind, chance.randint(1, 7)),
        ("manned", name, kind, chance.choice((0, 1, 1, 2, 4)))))


def some_tellings(chance, most=20):
    """A list of (beat, deed) in any order; gangs come early, as a rule."""
    names = chance.choice((NAMES[:2], NAMES[:3], NAMES))
    span = chance.choice((5, 20, 60))
    rows = [(chance.choice((0, 0, 0, 3)), ("joins", name, (1, 2, 1, 2), (1, 1, 2, 1)))
            for name in names if chance.random() < 0.9]
    rows += [(chance.randint(0, 3), ("put", name, chance.randint(1, 4))) for name in names if chance.random() < 0.6]
    rows += [(chance.randint(0, span), some_deed(chance, names)) for _ in range(chance.randint(0, most))]
    chance.shuffle(rows)
    return rows


def some_args(chance):
    return some_yard(chance, METALS)
