"""Plans [7], and by when pieces can be closed [6]."""

import fractions
import itertools
import math
import random
import unittest

from hotpass.gangs import Gang
from hotpass.passing import passed
from hotpass.plans import asked_at, asks_of, keeps, least_end
from tests.walks import some_gangs, walk

FAR = 10 ** 12


class LeastEndTest(unittest.TestCase):
    def test_against_a_walk(self):
        for gang in some_gangs(60, 11):
            ends = [end for _, _, end in walk(gang, [0] * 24)]
            self.assertEqual([least_end(gang, many) for many in range(1, 25)], ends, gang)

    def test_piece_by_piece(self):
        for gang in some_gangs(40, 12, most=10 ** 6):
            ends = [end for _, _, end in passed(gang, [0] * 300)]
            self.assertEqual([least_end(gang, many) for many in range(1, 301)], ends, gang)

    def test_kinds_that_hardly_bind(self):
        for hands in itertools.product(range(1, 5), repeat=4):
            for takes in ([10 * many for many in hands], [10 * many - 1 for many in hands],
                          [10 * many - (many < max(hands)) for many in hands],
                          [10 * many if many == max(hands) else 10 * many - many * many for many in hands],
                          [10 * many if many > 2 else 1 for many in hands]):
                gang = Gang("ann", takes, hands)
                ends = [end for _, _, end in passed(gang, [0] * 30)]
                self.assertEqual([least_end(gang, many) for many in range(1, 31)], ends, gang)

    def test_far_out_as_in_rounds(self):
        for gang in some_gangs(60, 13, most=40):
            top, bottom = gang.pace()
            ends = [end for _, _, end in passed(gang, [0] * 100)]
            for number in range(80, 100):
                rounds = (FAR - number) // (12 * bottom)
                many = number + rounds * 12 * bottom
                self.assertEqual(least_end(gang, many), ends[number - 1] + rounds * 12 * top, (gang, many))

    def test_told_ends(self):
        gang = Gang("ann", (2, 1, 1, 4))
        self.assertEqual([least_end(gang, many) for many in (1, 2, 3)], [8, 12, 16])
        self.assertEqual(least_end(gang, FAR), 8 + 4 * (FAR - 1))
        self.assertEqual(least_end(gang.handed(3, 2), FAR), 8 + 2 * (FAR - 1))
        self.assertEqual(least_end(gang=Gang("ann", (3, 1, 1, 1), (2, 1, 1, 1)), many=5), 12)
        self.assertEqual(least_end(Gang("ann", (10 ** 6,) * 4, (1, 2, 3, 4)), FAR), 10 ** 6 * (FAR + 3))
        self.assertEqual(least_end(Gang("ann", (10 ** 6,) * 4, (4,) * 4), FAR), 10 ** 6 * (FAR // 4 + 3))

    def test_no_asks_come_to_an_earlier_end(self):
        chance = random.Random(14)
        for gang in some_gangs(60, 14):
            asks = sorted(chance.randint(0, 20) for _ in range(12))
            for number, (_, _, end) in enumerate(passed(gang, asks)):
                self.assertGreaterEqual(end, least_end(gang, number + 1))


class AskedAtTest(unittest.TestCase):
    def test_rounded_down(self):
        self.assertEqual([asked_at((7, 3), number) for number in range(8)], [0, 2, 4, 7, 9, 11, 14, 16])
        self.assertEqual([asked_at([1, 6], number) for number in (0, 5, 6, 11, 12)], [0, 0, 1, 1, 2])
        self.assertEqual(asked_at((10 ** 6, 6), FAR), math.floor(fractions.Fraction(10 ** 6 * FAR, 6)))
        self.assertEqual(asked_at((10 ** 6, 1), FAR), 10 ** 18)

    def test_first(self):
        self.assertEqual(asked_at((7, 3), 2, 10), 14)
        self.assertEqual(asked_at((7, 3), 0, FAR), FAR)
        self.assertEqual(asked_at(first=5, number=1, plan=(7, 3)), 7)

    def test_asks_of(self):
        self.assertEqual(asks_of((7, 3), 5), [0, 2, 4, 7, 9])
        self.assertEqual(asks_of([7, 3], 5, 100), [100, 102, 104, 107, 109])
        self.assertEqual(asks_of((7, 3), 0), [])
        self.assertEqual(asks_of(first=1, many=2, plan=(7, 3)), [1, 3])
        plan = (10 ** 6 - 1, 6)
        self.assertEqual(asks_of(plan, 200, 3), [asked_at(plan, number, 3) for number in range(200)])

    def test_told_lists_are_the_askers_own(self):
        plan = [7, 3]
        asks_of(plan, 3).append(9)
        self.assertEqual(asks_of(plan, 3), [0, 2, 4])
        self.assertEqual(plan, [7, 3])


class KeepsTest(unittest.TestCase):
    def test_about_the_pace(self):
        gang = Gang("ann", (7, 1, 1, 1), (3, 1, 1, 1))
        self.assertIs(keeps(gang, (7, 3)), True)
        self.assertIs(keeps(gang, [14, 6]), True)
        self.assertIs(keeps(gang, (12, 5)), True)
        self.assertIs(keeps(gang, (11, 5)), False)
        self.assertIs(keeps(gang, (9, 4)), False)
        self.assertIs(keeps(plan=(13, 6), gang=gang), False)
        gang = Gang("ann", (10 ** 6, 1, 1, 1))
        self.assertIs(keeps(gang, (10 ** 6, 1)), True)
        self.assertIs(keeps(gang, (10 ** 6 - 1, 1)), False)

    def test_what_is_kept_never_waits(self):
        for gang in some_gangs(80, 15, most=9):
            top, bottom = gang.pace()
            for pieces in range(1, 7):
                beats = -(-top * pieces // bottom)
                self.assertTrue(keeps(gang, (beats, pieces)))
                asks = asks_of((beats, pieces), 30)
                for ask, (_, begins, _) in zip(asks, walk(gang, asks)):
                    self.assertEqual((begins[0], begins[3]), (ask, ask + gang.through()))
                if beats > 1:
                    self.assertFalse(keeps(gang, (beats - 1, pieces)))

    def test_what_is_not_kept_waits(self):
        for gang in some_gangs(20, 16, most=9):
            top, bottom = gang.pace()
            beats = (top * 6 - 1) // bottom
            if beats < 1:
                continue
            asks = asks_of((beats, 6), 600)
            self.assertGreater(passed(gang, asks)[-1][1][3], asks[-1] + gang.through())


if __name__ == "__main__":
    unittest.main()
