"""A yard beside a plain one that goes beat by beat, and beside passed [15] [16] [17]; of [1] (a), (b), (f), (g)."""

import random
import unittest

from hotpass.errors import Begun
from hotpass.gangs import Gang
from hotpass.metals import Metal
from hotpass.passing import passed
from hotpass.yard import Yard
from tests.plainyard import WORDS, PlainYard, some_night, some_yard
from tests.walks import is_just, some_gangs

FAR = 10 ** 12
METALS = [Metal(100, 10, [(1, 5)]), Metal(100, 50, [(1, 5)]), Metal(100, 90, [(1, 5)]), Metal(10, 0, [(1, 0)]),
          Metal(100, 99, [(1, 2)]), Metal(100, 60, [(3, 1), (1, 4)])]


def do(yard, deed):
    try:
        getattr(yard, deed[0])(*deed[1:])
    except Begun:
        pass


def looked_at(yard, many, names):
    """All that is told of a yard and of its pieces, of a plain one too."""
    return ([yard.where(piece) for piece in range(many)], yard.counts(), [yard.takes_of(name) for name in names],
            [yard.holding(name, kind) for name in names for kind in range(4)])


def by_beats(yard, beat):
    told = []
    while yard.now() < beat:
        told += yard.beat()
    return told


def by_goes(yard, beat):
    return yard.go(beat - yard.now())


def by_leaps(yard, beat):
    """Leaps as far as they lead to a beat ahead of this one, then goes."""
    told = []
    ahead = yard.like()
    found = ahead.leap()
    while found and ahead.now() <= beat:
        told += yard.leap()
        found = ahead.leap()
    return told + yard.go(beat - yard.now())


def some_nights(many, seed):
    chance = random.Random(seed)
    for _ in range(many):
        gangs = []
        for name in ("bob", "ann", "cy", "di")[:chance.randint(1, 4)]:
            hands = [chance.choice((1, 1, 2, 3, 4)) for _ in range(4)]
            gangs.append(Gang(name, [chance.randint(1, 6) for _ in range(4)], hands))
        yield some_yard(chance, METALS), some_night(chance, gangs), chance.choice((0, 30, 200))


def gone_through(yard, night, end, steps):
    """What is told of a night, gone through by such steps."""
    told = []
    for beat, deed in night:
        told += steps(yard, beat)
        do(yard, deed)
    return told + steps(yard, yard.now() + end)


class NightsTest(unittest.TestCase):
    def test_beat_by_beat_as_a_plain_yard(self):
        words = set()
        for args, night, end in some_nights(250, 91):
            plain, yard = PlainYard(*args), Yard(*args)
            later = night + [(night[-1][0] + end, None)]
            for beat, deed in later:
                while plain.t < beat:
                    told = yard.beat()
                    self.assertTrue(is_just(told, plain.beat()), (args, night, told))
                    self.assertEqual(yard.now(), plain.t)
                    words |= {row[1] for row in told}
                    names = yard.names()
                    self.assertTrue(is_just(looked_at(yard, len(yard), names),
                                            looked_at(plain, len(plain.all), list(plain.gangs))), (args, night))
                if deed is not None:
                    do(plain, deed)
                    do(yard, deed)
        self.assertEqual(words, set(WORDS))

    def test_by_beats_by_goes_and_by_leaps(self):
        for args, night, end in some_nights(400, 92):
            yards = [Yard(*args) for _ in range(3)]
            told = [gone_through(yard, night, end, steps)
                    for yard, steps in zip(yards, (by_beats, by_goes, by_leaps))]
            self.assertEqual(told[1], told[0], (args, night))
            self.assertEqual(told[2], told[0], (args, night))
            looks = [(yard.now(), looked_at(yard, len(yard), yard.names())) for yard in yards]
            self.assertEqual(looks[1:], looks[:1] * 2, (args, night))

    def test_in_parts_as_at_once(self):
        chance = random.Random(93)
        for args, night, _ in some_nights(100, 94):
            one, other = Yard(*args), Yard(*args)
            gone_through(one, night, 0, by_goes)
            gone_through(other, night, 0, by_leaps)
            told = []
            for _ in range(20):
                told += one.go(chance.randint(0, 9))
            self.assertEqual(other.go(one.now() - other.now()), told)

    def test_leaps_go_to_the_end(self):
        for args, night, _ in some_nights(150, 95):
            yard = Yard(*args)
            gone_through(yard, night, 0, by_goes)
            other, end = yard.like(), yard.now()
            told = []
            found = yard.leap()
            while found:
                self.assertEqual({row[0] for row in found}, {yard.now() - 1})
                end = yard.now()
                told += found
                found = yard.leap()
            self.assertEqual(yard.now(), end)
            self.assertEqual(other.go(FAR), told)
            self.assertEqual(looked_at(other, len(other), other.names()), looked_at(yard, len(yard), yard.names()))

    def test_likes_go_on_alike(self):
        for args, night, end in some_nights(150, 96):
            yard, other = Yard(*args), Yard(*args)
            told, others = [], []
            for beat, deed in night:
                told += by_goes(yard, beat)
                others += by_goes(other, beat)
                left, other = other, other.like()
                do(yard, deed)
                do(other, deed)
                # What is done to the one that is left behind is nothing to its like.
                for name in left.names():
                    left.put(name, 5)
                    left.paced(name, 1, 9)
                    left.miss(name, 10 ** 6)
                left.go(30)
            self.assertEqual(others + other.go(end), told + yard.go(end))

    def test_all_that_was_put_lies_somewhere(self):
        for args, night, _ in some_nights(100, 97):
            yard = Yard(*args)
            for beat, deed in night:
                by_goes(yard, beat)
                do(yard, deed)
                self.assertEqual(sum(yard.counts()), len(yard))
                held = [piece for name in yard.names() for kind in range(4) for piece in yard.holding(name, kind)]
                self.assertEqual(sorted(held), [piece for piece in range(len(yard)) if yard.where(piece)[0] == "hand"])

    def test_no_hand_holds_two(self):
        for args, night, end in some_nights(100, 98):
            yard = Yard(*args)
            if any([deed[0] == "manned" for _, deed in night]):
                continue
            for beat, deed in night + [(night[-1][0] + end, ("put", night[0][1][1].name, 1))]:
                while yard.now() < beat:
                    yard.beat()
                    for name in yard.names():
                        for kind, many in enumerate(yard.takes_of(name)[1]):
                            self.assertLessEqual(len(yard.holding(name, kind)), many)
                do(yard, deed)


def missed_throws(runs, missed):
    """The numbers of the throws that are missed, where a gang's throws are numbered as they are made."""
    thrown = [number for number, (word, begins, _) in enumerate(runs) if word == "missed" or len(begins) > 2]
    return [throw for throw, number in enumerate(thrown) if number in missed]


def runs_of(gang, asks, holes, throws, life):
    """What passed tells, as a yard with this gang alone tells it."""
    yard = Yard(METALS[3] if life is None else Metal(10 + life, 10, [(1, 1)]), 0, None, 4)
    yard.joins(gang)
    for hole, more in enumerate(holes or []):
        yard.slow("ann", hole, more)
    for throw in throws:
        yard.miss("ann", throw)
    told = []
    for ask in asks:
        told += by_goes(yard, ask)
        yard.put("ann")
    told += yard.go(FAR)
    begins = [[] for _ in asks]
    ends = {}
    for beat, word, number, *_ in told:
        if word in ("drawn", "passed"):
            begins[number].append(beat)
        else:
            ends[number] = (word, beat)
    return [(ends[number][0], tuple(row), ends[number][1]) for number, row in enumerate(begins)]


class BesidePassedTest(unittest.TestCase):
    def test_one_gang(self):
        chance = random.Random(99)
        words = set()
        for gang in some_gangs(500, 99):
            pieces = chance.randint(0, 12)
            asks = sorted(chance.randint(0, chance.choice((0, 10, 60))) for _ in range(pieces))
            holes = chance.choice((None, [chance.choice((0, 0, 3, 20)) for _ in range(chance.randint(1, 10))]))
            missed = [number for number in range(pieces) if chance.random() < 0.2]
            life = chance.choice((None, gang.through() + chance.randint(0, 12), chance.randint(0, 8)))
            told = passed(gang, asks, holes, missed, life)
            args = (gang, asks, holes, missed_throws(told, missed), life)
            self.assertEqual(runs_of(*args), told, args)
            words |= {word for word, _, _ in told}
        self.assertEqual(words, {"closed", "cold", "missed"})


if __name__ == "__main__":
    unittest.main()
