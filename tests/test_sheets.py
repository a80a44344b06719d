"""Sheets of counts [18]; of [1] (g)."""

import copy
import time
import unittest

from hotpass.errors import Lacks
from hotpass.sheets import follows, lack_of
from tests.plainsheets import came_less_went, lacking, plain_follows, plain_lack, some_sheets
from tests.walks import is_just

BIG = 10 ** 9
GREAT_NAMES = [letter * 8 for letter in "abcdefghijkl"]


def refusal(sheet):
    """What follows refuses a sheet with, (places, many); None where it doesn't."""
    try:
        follows(sheet)
    except Lacks as lack:
        return (lack.places, lack.many)
    return None


class LackOfTest(unittest.TestCase):
    def test_few(self):
        line = ("fire", "heap", 3)
        for sheet, lack in (
                (([], []), None),
                (([], [("heap", 0)]), None),
                (([], [("heap", 2)]), (("heap",), -2)),
                (([], [("heap", -2)]), (("heap",), 2)),
                (([line], []), None),
                (([line], [("heap", 3)]), None),
                (([line], [("fire", -3)]), None),
                (([line], [("heap", 4)]), (("heap",), -1)),
                (([line], [("fire", -4)]), (("fire",), 1)),
                (([line], [("heap", 3), ("fire", -3)]), None),
                (([line], [("heap", 3), ("fire", 3)]), (("fire",), -6)),
                (([line], [("zoe", 0)]), None),
                (([line], [("zoe", 1)]), (("zoe",), -1)),
                (([("fire", "heap", None)], [("heap", 4)]), None),
                (([("fire", "heap", None)], [("heap", 4), ("fire", -4)]), None),
                (([("fire", "heap", None)], [("heap", 4), ("fire", -5)]), (("fire", "heap"), 1)),
                (([("fire", "heap", None), line], [("heap", 4), ("fire", -3)]), (("fire", "heap"), -1))):
            self.assertTrue(is_just(lack_of(sheet), lack), (sheet, lack_of(sheet)))
            self.assertTrue(is_just(refusal(sheet), lack), sheet)

    def test_lines_between_the_same_places(self):
        lines = [("a", "b", 5), ("a", "b", 2), ("b", "a", 3)]
        self.assertIsNone(lack_of((lines, [("a", -4), ("b", 4)])))
        self.assertEqual(lack_of((lines, [("b", 5)])), (("b",), -1))
        self.assertEqual(lack_of((lines + [("b", "a", None)], [("a", -4), ("b", 5)])), (("a", "b"), -1))
        self.assertEqual(lack_of((lines + [("a", "b", None)], [("b", 5), ("a", -4)])), (("a", "b"), -1))

    def test_lines_between_places_that_are_not_counted(self):
        lines = [("x", "y", 5), ("y", "x", None), ("x", "a", 1)]
        self.assertIsNone(lack_of((lines, [("a", 1)])))
        self.assertEqual(lack_of((lines, [("a", 3)])), (("a",), -2))
        # Whatever comes from a place that isn't counted may be any.
        self.assertIsNone(lack_of((lines + [("a", "y", None)], [("a", 3)])))

    def test_the_fewest_places_then_the_least(self):
        free = [("b", "c", None), ("d", "e", None)]
        counted = [("b", 1), ("c", 1), ("d", 1), ("e", 1)]
        self.assertEqual(lack_of((free, counted)), (("b", "c"), -2))
        self.assertEqual(lack_of((free, counted[::-1])), (("b", "c"), -2))
        self.assertEqual(lack_of((free, counted + [("z", 7)])), (("z",), -7))
        self.assertEqual(lack_of((free, [("z", 7), ("y", -7)] + counted)), (("y",), 7))
        # By their letters, not by how long they are.
        self.assertEqual(lack_of(([], [("b", 1), ("aa", 1), ("ab", 1)])), (("aa",), -1))
        # Two that are even together lack each alone; none lacks beside them.
        self.assertEqual(lack_of(([], [("x", 1), ("y", -1)])), (("x",), -1))

    def test_great_numbers_may_be_even(self):
        self.assertIsNone(lack_of(([("a", "b", BIG)] * 40, [("a", -40 * BIG), ("b", 40 * BIG)])))
        self.assertEqual(lack_of(([("a", "b", BIG)] * 40, [("b", BIG)])), (("b",), 39 * BIG))
        self.assertEqual(lack_of(([("a", "b", BIG)] * 40, [("a", -BIG)])), (("a",), -39 * BIG))

    def test_against_a_search_over_all_tuples(self):
        seen, sizes = set(), set()
        for sheet in some_sheets(3000, 181):
            lack = plain_lack(sheet)
            self.assertTrue(is_just(lack_of(sheet), lack), (sheet, lack))
            seen.add(min(3, lacking(sheet)))
            sizes.add(0 if lack is None else len(lack[0]))
        self.assertEqual(seen, {0, 1, 2, 3})
        self.assertGreaterEqual(sizes, {0, 1, 2, 3, 4})


class FollowsTest(unittest.TestCase):
    def test_few(self):
        for sheet, told in (
                (([], []), []),
                (([], [("heap", 0)]), []),
                (([("a", "b", 0)], []), [0]),
                (([("a", "b", None)], []), [None]),
                (([("a", "b", None)], [("b", 4)]), [4]),
                (([("a", "b", None)], [("a", 4)]), [-4]),
                (([("a", "b", None)], [("a", -4), ("b", 4)]), [4]),
                (([("a", "b", None), ("a", "b", None)], [("a", -4), ("b", 4)]), [None, None]),
                (([("a", "b", None), ("b", "a", None)], [("a", -4), ("b", 4)]), [None, None]),
                (([("a", "b", None), ("b", "c", None)], [("b", 4)]), [None, None]),
                (([("a", "b", None), ("b", "c", None)], [("b", 4), ("c", 1)]), [5, 1]),
                (([("a", "b", None), ("b", "c", None), ("c", "a", None)], [("b", 4), ("c", -1), ("a", -3)]), [None] * 3),
                (([("a", "b", None), ("b", "c", None), ("c", "d", None)], [("b", 4), ("c", 1)]), [None] * 3),
                (([("a", "b", 7), ("b", "c", None)], [("b", 4)]), [7, 3])):
            self.assertTrue(is_just(follows(sheet), told), (sheet, follows(sheet)))

    def test_against_plain_reckoning(self):
        below, kinds = 0, set()
        for sheet in some_sheets(3000, 182):
            told = plain_follows(sheet)
            if told is None:
                self.assertEqual(refusal(sheet), plain_lack(sheet), sheet)
                continue
            self.assertTrue(is_just(follows(sheet), told), (sheet, follows(sheet), told))
            below += any([many is not None and many < 0 for many in told])
            for line, many in zip(sheet[0], told):
                kinds.add((line[2] is None, many is None))
        self.assertGreater(below, 100)
        self.assertEqual(kinds, {(False, False), (True, False), (True, True)})

    def test_the_refusal(self):
        with self.assertRaises(Lacks) as caught:
            follows(([("a", "b", 1), ("b", "c", None)], [("a", 5), ("b", 1), ("c", 1)]))
        self.assertIs(caught.exception.__class__, Lacks)
        self.assertTrue(is_just((caught.exception.places, caught.exception.many), (("a",), -6)))

    def test_what_follows_may_be_handed_in(self):
        for sheet in some_sheets(300, 183):
            if lack_of(sheet) is None:
                lines = [(*line[:2], many) for line, many in zip(sheet[0], follows(sheet))]
                self.assertIsNone(lack_of((lines, sheet[1])))
                self.assertEqual(follows((lines, sheet[1])), follows(sheet))


class GreatSheetsTest(unittest.TestCase):
    def chain(self, many):
        """Forty lines around twelve places: a chain, of which nothing is told, and lines of that many."""
        chain = [(one, other, None) for one, other in zip(GREAT_NAMES, GREAT_NAMES[1:])]
        rest = [(GREAT_NAMES[k % 12], GREAT_NAMES[(k * 5 + 1) % 12], many) for k in range(60)]
        return chain + [line for line in rest if line[0] != line[1]][:29]

    def test_in_short_time(self):
        begun = time.perf_counter()
        for many in (BIG, 0):
            lines = self.chain(many)
            self.assertEqual(len(lines), 40)
            real = [(one, other, -BIG if told is None else told) for one, other, told in lines]
            counted = [(place, came_less_went(real, (place,))) for place in GREAT_NAMES]
            self.assertEqual(follows((lines, counted)), [-BIG] * 11 + [many] * 29)
            self.assertIsNone(lack_of((lines, counted)))
            counted[5] = (counted[5][0], counted[5][1] - BIG)
            self.assertEqual(lack_of((lines, counted)), (tuple(GREAT_NAMES), BIG))
            self.assertEqual(follows(([line[:2] + (None,) for line in lines], counted[:3])), [None] * 40)
        self.assertLess(time.perf_counter() - begun, 5)

    def test_many_places_alone(self):
        for more in (BIG, -BIG):
            counted = [(place, more) for place in GREAT_NAMES[::-1]]
            self.assertEqual(lack_of(([], counted)), ((GREAT_NAMES[0],), -more))


class HandedInTest(unittest.TestCase):
    SHEET = ([("a", "b", None), ("b", "c", 3), ("c", "d", None)], [("a", -4), ("b", 1)])
    LACK = ([("a", "b", 3)], [("a", -4), ("b", 1)])

    def as_lists(self, sheet):
        return [[list(row) for row in rows] for rows in sheet]

    def as_tuples(self, sheet):
        return tuple([tuple([tuple(row) for row in rows]) for rows in sheet])

    def test_lists_tuples_and_names(self):
        for turned in (self.as_lists, self.as_tuples):
            self.assertTrue(is_just(follows(turned(self.SHEET)), [4, 3, None]))
            self.assertTrue(is_just(lack_of(turned(self.LACK)), (("a",), 1)))
            self.assertEqual(refusal(turned(self.LACK)), (("a",), 1))
        self.assertEqual(follows(sheet=self.SHEET), [4, 3, None])
        self.assertEqual(lack_of(sheet=self.LACK), (("a",), 1))

    def test_nothing_is_changed_and_all_is_new(self):
        for sheet in (self.as_lists(self.SHEET), self.as_lists(self.LACK)):
            ahead = copy.deepcopy(sheet)
            lack_of(sheet)
            refusal(sheet)
            self.assertTrue(is_just(sheet, ahead))
        told = follows(self.SHEET)
        told[0] = "x"
        told.append(9)
        self.assertEqual(follows(self.SHEET), [4, 3, None])

    def test_asking_again_and_later_changes(self):
        sheet = self.as_lists(self.SHEET)
        self.assertEqual([follows(sheet) for _ in range(3)], [[4, 3, None]] * 3)
        sheet[1][1][1] = 2
        self.assertEqual(refusal(sheet), (("a", "b"), -1))
        sheet[1][0][1] = -5
        self.assertEqual(follows(sheet), [5, 3, None])


if __name__ == "__main__":
    unittest.main()
