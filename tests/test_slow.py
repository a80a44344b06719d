"""Slow holes [10]: how late closings begin, from when on all is made up, what gets cold."""

import copy
import random
import unittest

from hotpass.errors import TooQuick
from hotpass.gangs import Gang
from hotpass.passing import passed
from hotpass.plans import asked_at, asks_of, keeps
from hotpass.slow import first_cold, late_by, made_up
from tests.walks import some_gangs, walk


def some_slow(many, seed, most=6, slowest=20):
    """Gangs with plans that they keep, just at the pace as often as not, and slow holes."""
    chance = random.Random(seed)
    for gang in some_gangs(many, seed, most):
        top, bottom = gang.pace()
        pieces = chance.choice((bottom, chance.randint(1, 6)))
        beats = -(-top * pieces // bottom) + chance.choice((0, 0, 0, 1, 3))
        holes = [chance.choice((0, 0, 1, slowest)) for _ in range(chance.randint(0, 12))]
        yield gang, (beats, pieces), holes


def far_lates(gang, plan, holes, many):
    asks = asks_of(plan, many)
    return [run[1][3] - ask - gang.through() for ask, run in zip(asks, passed(gang, asks, holes))]


class LateByTest(unittest.TestCase):
    def test_told(self):
        gang = Gang("ann", (2, 1, 1, 4))
        self.assertEqual(late_by(gang, (5, 1), [3], 6), [0, 2, 1, 0, 0, 0])
        self.assertEqual(late_by(gang, (4, 1), [3], 4), [0, 3, 3, 3])
        self.assertEqual(late_by(gang, (5, 1), [], 3), [0, 0, 0])
        self.assertEqual(late_by(gang, (5, 1), [9], 0), [])
        self.assertEqual(late_by(many=2, holes=(3,), plan=[5, 1], gang=gang), [0, 2])

    def test_against_a_walk_with_and_without_the_holes(self):
        for gang, plan, holes in some_slow(150, 31):
            asks = asks_of(plan, 30)
            slow, plain = walk(gang, asks, holes), walk(gang, asks)
            told = late_by(gang, plan, holes, 30)
            self.assertEqual(told, [one[1][3] - other[1][3] for one, other in zip(slow, plain)])
            self.assertEqual([other[1][3] for other in plain], [ask + gang.through() for ask in asks])

    def test_against_passed(self):
        for gang, plan, holes in some_slow(100, 32, most=40, slowest=60):
            asks = asks_of(plan, 200)
            pairs = zip(passed(gang, asks, holes), passed(gang, asks))
            self.assertEqual(late_by(gang, plan, holes, 200), [one[1][3] - other[1][3] for one, other in pairs])


class MadeUpTest(unittest.TestCase):
    def test_told(self):
        gang = Gang("ann", (2, 1, 1, 4))
        self.assertEqual(made_up(gang, (5, 1), [3]), 3)
        self.assertEqual(made_up(gang, (5, 1), [1]), 0)
        self.assertEqual(made_up(gang, (5, 1), []), 0)
        self.assertEqual(made_up(gang, (5, 1), [0, 0, 0]), 0)
        self.assertEqual(made_up(gang, (5, 1), [0, 0, 0, 3]), 6)
        self.assertEqual(made_up(holes=(3,), plan=[5, 1], gang=gang), 3)

    def test_never(self):
        gang = Gang("ann", (2, 1, 1, 4))
        self.assertIsNone(made_up(gang, (4, 1), [1]))
        self.assertIsNone(made_up(gang, (24, 6), [0, 0, 60]))
        self.assertIsNone(made_up(Gang("ann", (39, 1, 1, 9), (4, 1, 1, 1)), (39, 4), [60] * 12))

    def test_made_up_just_at_the_pace(self):
        gang = Gang("ann", (4, 1, 1, 1))
        self.assertEqual(made_up(gang, (4, 1), [3]), 0)
        self.assertEqual(made_up(gang, (4, 1), [6]), 2)
        self.assertEqual(late_by(gang, (4, 1), [6], 4), [0, 3, 0, 0])

    def test_late_now_and_then_for_ever(self):
        found = 0
        for gang, plan, holes in some_slow(300, 36):
            lates = far_lates(gang, plan, holes, 1200)[-120:]
            if 0 in lates and max(lates) > 0:
                found += 1
                self.assertIsNone(made_up(gang, plan, holes), (gang, plan, holes))
        self.assertGreater(found, 0)

    def test_against_passed(self):
        nevers = 0
        for gang, plan, holes in some_slow(300, 33):
            lates = far_lates(gang, plan, holes, 2500)
            told = made_up(gang, plan, holes)
            if any(lates[-120:]):
                nevers += 1
                self.assertIsNone(told, (gang, plan, holes))
            else:
                last = max([number for number, late in enumerate(lates) if late], default=-1)
                self.assertEqual(told, last + 1, (gang, plan, holes))
        self.assertIn(nevers, range(30, 270))

    def test_thousands_of_pieces_go_by(self):
        for gang, plan, many in ((Gang("ann", (37, 36, 36, 9), (4, 4, 4, 1)), (47, 5), 4765),
                                 (Gang("ann", (40, 40, 40, 40), (4, 4, 4, 1)), (241, 6), 4320),
                                 (Gang("ann", (31, 1, 1, 10), (3, 1, 1, 1)), (52, 5), 10458)):
            holes = [60] * 12
            self.assertEqual(made_up(gang, plan, holes), many)
            lates = far_lates(gang, plan, holes, many + 200)
            self.assertGreater(lates[many - 1], 0)
            self.assertFalse(any(lates[many:]))


class FirstColdTest(unittest.TestCase):
    def test_told(self):
        gang = Gang("ann", (2, 1, 1, 4))
        self.assertEqual(first_cold(gang, (5, 1), [3], 5), 1)
        self.assertIsNone(first_cold(gang, (5, 1), [3], 6))
        self.assertIsNone(first_cold(gang, (5, 1), [], 4))
        self.assertEqual(first_cold(gang, (5, 1), [], 3), 0)
        self.assertEqual(first_cold(gang, (5, 1), [0, 0, 9], 0), 0)
        self.assertEqual(first_cold(life=4, holes=(0, 0, 9), plan=[5, 1], gang=gang), 3)

    def test_against_passed(self):
        colds = set()
        for gang, plan, holes in some_slow(200, 34):
            runs = passed(gang, asks_of(plan, 1500), holes)
            stays = [begins[3] - begins[0] for _, begins, _ in runs]
            for life in {0, gang.through() - 1, gang.through(), gang.through() + 1, max(stays) - 1, max(stays)}:
                told = first_cold(gang, plan, holes, life)
                colds.add(told)
                self.assertEqual(told, next((at for at, stay in enumerate(stays) if stay > life), None))
        self.assertIn(None, colds)
        self.assertGreater(len(colds), 5)


class TooQuickTest(unittest.TestCase):
    def test_refused_whatever_the_rest_is(self):
        gang = Gang("ann", (7, 1, 1, 1), (3, 1, 1, 1))
        for plan in ((2, 1), (13, 6), [11, 5], (1, 6)):
            for holes in ([], [0], [60] * 12, None):
                for ask in (lambda: late_by(gang, plan, holes, 0), lambda: late_by(gang, plan, holes, 200),
                            lambda: made_up(gang, plan, holes), lambda: first_cold(gang, plan, holes, 0),
                            lambda: first_cold(gang, plan, holes, 10 ** 6)):
                    with self.assertRaises(TooQuick) as caught:
                        ask()
                    self.assertEqual(caught.exception.what, (7, 3))
                    self.assertIsInstance(caught.exception.what, tuple)

    def test_not_refused_just_at_the_pace(self):
        gang = Gang("ann", (7, 1, 1, 1), (3, 1, 1, 1))
        for plan in ((7, 3), (14, 6), (12, 5)):
            self.assertEqual(late_by(gang, plan, [], 3), [0, 0, 0])
            self.assertEqual(made_up(gang, plan, []), 0)
            self.assertIsNone(first_cold(gang, plan, [], 9))

    def test_about_the_pace(self):
        for gang in some_gangs(60, 35):
            top, bottom = gang.pace()
            for pieces in range(1, 7):
                for beats in range(1, 2 * top * pieces // bottom + 2):
                    if keeps(gang, (beats, pieces)):
                        self.assertEqual(made_up(gang, (beats, pieces), []), 0)
                    else:
                        self.assertRaises(TooQuick, made_up, gang, (beats, pieces), [])


class HandedInTest(unittest.TestCase):
    def test_nothing_is_changed_and_told_lists_are_the_askers_own(self):
        for gang, plan, holes in some_slow(30, 37):
            plan = list(plan)
            before = copy.deepcopy((gang, plan, holes))
            told = late_by(gang, plan, holes, 9)
            answers = made_up(gang, plan, holes), first_cold(gang, plan, holes, 9)
            again = list(told)
            told.clear()
            self.assertEqual((gang, plan, holes), before)
            self.assertEqual(late_by(gang, tuple(plan), tuple(holes), 9), again)
            self.assertEqual((made_up(gang, plan, tuple(holes)), first_cold(gang, plan, tuple(holes), 9)), answers)

    def test_planned_beats(self):
        gang = Gang("ann", (2, 1, 1, 4))
        late = late_by(gang, (9, 2), [30], 12)
        runs = passed(gang, asks_of((9, 2), 12), [30])
        begins = [asked_at((9, 2), number) + gang.through() + late[number] for number in range(12)]
        self.assertEqual(begins, [run[1][3] for run in runs])


if __name__ == "__main__":
    unittest.main()
