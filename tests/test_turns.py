"""Turns at a fire [11]; of [1] (d)."""

import copy
import random
import unittest

from hotpass.turns import least_mouth, turns
from tests.walks import is_just, some_wishes, walk_turns

FAR = 10 ** 12


def most_drawn(wishes, mouth):
    """How many pieces can be drawn at all: each one is tried, moving others where that helps."""
    drawn = {}

    def may_have(number, tried):
        first, last = wishes[number]
        for place in [(beat, at) for beat in range(first, last + 1) for at in range(mouth)]:
            if place not in tried:
                tried.add(place)
                if place not in drawn or may_have(drawn[place], tried):
                    drawn[place] = number
                    return True
        return False

    return sum([may_have(number, set()) for number in range(len(wishes))])


def two_hundred(seed):
    """Two hundred wishes about five far places, too many for one mouth."""
    chance = random.Random(seed)
    wishes = []
    for _ in range(200):
        first = chance.choice((0, 1000, FAR // 2, FAR - 500, FAR - 40)) + chance.randint(0, 20)
        wishes.append((first, min(FAR, first + chance.randint(0, 30))))
    return wishes


class TurnsTest(unittest.TestCase):
    def test_few(self):
        self.assertEqual(turns([]), [])
        self.assertEqual(turns([(3, 3)]), [3])
        self.assertEqual(turns([(3, 9), (3, 4), (3, 4)]), [5, 3, 4])
        self.assertEqual(turns([(0, 0), (0, 0), (0, 0)]), [0, None, None])
        self.assertEqual(turns([(0, 0), (0, 0), (0, 0)], 2), [0, 0, None])
        self.assertEqual(turns([(0, 5), (2, 2), (0, 5), (2, 2)]), [0, 2, 1, None])

    def test_least_last_goes_first_and_of_like_ones_the_one_ahead(self):
        self.assertEqual(turns([(0, 7), (0, 6), (0, 5)]), [2, 1, 0])
        self.assertEqual(turns([(1, 6), (0, 6), (1, 6)]), [1, 0, 2])

    def test_burnt_ones_take_no_turn(self):
        self.assertEqual(turns([(0, 0), (0, 0), (0, 1), (0, 2)]), [0, None, 1, 2])

    def test_against_a_walk(self):
        burnt = set()
        for wishes in some_wishes(1500, 51):
            for mouth in (1, 2, 3, 4):
                told = turns(wishes, mouth)
                self.assertTrue(is_just(told, walk_turns(wishes, mouth)), (wishes, mouth, told))
                burnt.add(told.count(None))
        self.assertLessEqual({0, 1, 2, 3, 4, 5}, burnt)

    def test_fewest_burn(self):
        for wishes in some_wishes(600, 52):
            for mouth in (1, 2, 4):
                told = turns(wishes, mouth)
                self.assertEqual(len(told) - told.count(None), most_drawn(wishes, mouth), (wishes, mouth))

    def test_far_out(self):
        for wishes in some_wishes(200, 53):
            far = [(first + FAR - 40, last + FAR - 40) for first, last in wishes]
            for mouth in (1, 3):
                told = [None if beat is None else beat + FAR - 40 for beat in walk_turns(wishes, mouth)]
                self.assertEqual(turns(far, mouth), told)

    def test_far_apart_and_wide(self):
        self.assertEqual(turns([(FAR, FAR), (0, FAR), (0, FAR), (5, FAR)]), [FAR, 0, 1, 5])
        self.assertEqual(turns([(FAR, FAR), (FAR - 1, FAR), (0, 0)]), [FAR, FAR - 1, 0])

    def test_two_hundred(self):
        for mouth in (1, 2, 3, 4):
            wishes = two_hundred(mouth)
            told = turns(wishes, mouth)
            # Each far place by itself, as none is within reach of another.
            for base in sorted({first - first % 1000 for first, _ in wishes}):
                near = [number for number, wish in enumerate(wishes) if wish[0] // 1000 == base // 1000]
                shifted = [(wishes[number][0] - base, wishes[number][1] - base) for number in near]
                self.assertEqual([told[number] for number in near],
                                 [None if beat is None else beat + base for beat in walk_turns(shifted, mouth)])

    def test_two_hundred_at_once(self):
        self.assertEqual(turns([(FAR, FAR)] * 200, 4), [FAR] * 4 + [None] * 196)
        self.assertEqual(turns([(0, FAR)] * 200, 4), [number // 4 for number in range(200)])

    def test_lists_tuples_and_names(self):
        wishes = [(0, 1), (0, 0), (0, 0), (1, 1)]
        told = [1, 0, None, None]
        self.assertEqual(turns(wishes), told)
        self.assertEqual(turns(tuple(wishes)), told)
        self.assertEqual(turns([list(wish) for wish in wishes]), told)
        self.assertEqual(turns(mouth=1, wishes=wishes), told)
        self.assertEqual(turns(wishes, mouth=2), [1, 0, 0, 1])

    def test_nothing_is_changed_and_all_is_new(self):
        wishes = [[0, 1], [0, 0], [0, 0]]
        kept = copy.deepcopy(wishes)
        told = turns(wishes)
        told.append(7)
        self.assertEqual(wishes, kept)
        self.assertEqual(turns(wishes), [1, 0, None])
        self.assertIsNot(turns(wishes), turns(wishes))


class LeastMouthTest(unittest.TestCase):
    def test_few(self):
        self.assertEqual(least_mouth([(0, 0)]), 1)
        self.assertEqual(least_mouth([(0, 0), (0, 0), (0, 1)]), 2)
        self.assertEqual(least_mouth([(FAR, FAR)] * 200), 200)
        self.assertEqual(least_mouth([(0, FAR)] * 200), 1)
        self.assertEqual(least_mouth(two_hundred(9)[:1]), 1)

    def test_none_burns_and_with_one_less_some_does(self):
        found = set()
        for wishes in some_wishes(800, 54, most=20):
            if wishes:
                mouth = least_mouth(wishes)
                self.assertNotIn(None, walk_turns(wishes, mouth))
                self.assertTrue(mouth == 1 or None in walk_turns(wishes, mouth - 1), wishes)
                found.add(mouth)
        self.assertLessEqual({1, 2, 3, 4, 5, 6}, found)

    def test_two_hundred(self):
        for seed in range(5):
            wishes = two_hundred(seed)
            mouth = least_mouth(wishes)
            self.assertGreater(mouth, 1)
            self.assertNotIn(None, turns(wishes, mouth))
            self.assertIn(None, turns(wishes, mouth - 1))

    def test_lists_tuples_and_names(self):
        wishes = [[0, 1], [0, 0], [0, 0]]
        self.assertEqual(least_mouth(wishes), 2)
        self.assertEqual(least_mouth(wishes=tuple([tuple(wish) for wish in wishes])), 2)
        self.assertEqual(wishes, [[0, 1], [0, 0], [0, 0]])


if __name__ == "__main__":
    unittest.main()
