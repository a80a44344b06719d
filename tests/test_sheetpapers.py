"""Papers of sheets: places by which a line follows, rings by which it doesn't [19]; of [1] (g)."""

import copy
import itertools
import random
import time
import unittest

from hotpass.sheetpapers import places_for, ring_for, shows_places, shows_ring
from hotpass.sheets import follows, lack_of
from tests.plainsheets import came_less_went, plainly_shows_places, plainly_shows_ring, rising_tuples, some_sheets
from tests.walks import is_just, unlike_by_one

BIG = 10 ** 9
GREAT_NAMES = [letter * 8 for letter in "abcdefghijkl"]
DEEP = [([("a", [(1, None)])],)]
ODD = (None, True, False, 0, 1, -1, 10 ** 5000, "", "a", "ab", "abc", [], (), [[]], ((),), [()], ([],), DEEP, (DEEP,),
       ("a", 1), ["a", 1], [("a", 1)], [(0, "1")], [("0", 1)], [(0, None)], [(None, 1)], [(0, [1])], [([0], 1)],
       (["a"],), (("a",),), ("a", None), (None, "a"), (0,), (True,), [(0,)], [(0, 1, 1)], [0, 1], ([("a",)],), [(-1, 1)])
# A chain from outside, x, by a, b to c, a ring of b, d, e, and a told line beside it.
MIXED = ([("x", "a", None), ("a", "b", None), ("b", "c", None), ("b", "d", None), ("d", "e", None), ("b", "e", None),
          ("x", "y", None), ("c", "a", 2)],
         [("a", 3), ("b", -2), ("c", 1), ("d", 0), ("e", 4)])


def lines_not_told(sheet):
    return [number for number, line in enumerate(sheet[0]) if line[2] is None]


def some_without_lack(many, seed, **bounds):
    for sheet in some_sheets(many, seed, **bounds):
        if lack_of(sheet) is None:
            yield sheet


def all_rings(sheet, line):
    """All rings for a line, each with its lines rising."""
    numbers = lines_not_told(sheet)
    for signs in itertools.product((0, 1, -1), repeat=len(numbers)):
        ring = [(number, sign) for number, sign in zip(numbers, signs) if sign]
        if plainly_shows_ring(sheet, line, ring):
            yield ring


class ToldTest(unittest.TestCase):
    def test_few(self):
        line = ("a", "b", None)
        self.assertTrue(is_just(places_for(([line], [("b", 4)]), 0), ("b",)))
        self.assertTrue(is_just(places_for(([line], [("a", 4)]), 0), ("a",)))
        self.assertIsNone(ring_for(([line], [("b", 4)]), 0))
        # Of places that aren't counted nothing is known: the line alone is its ring.
        self.assertIsNone(places_for(([line], []), 0))
        self.assertIn(ring_for(([line], []), 0), ([(0, 1)], [(0, -1)]))
        two = ([line, ("b", "a", None), ("a", "b", 3)], [("a", 1), ("b", -1)])
        for number in (0, 1):
            self.assertIsNone(places_for(two, number))
            self.assertIn(sorted(ring_for(two, number)), ([(0, 1), (1, 1)], [(0, -1), (1, -1)]))

    def test_mixed(self):
        self.assertEqual(follows(MIXED), [6, 5, 3, None, None, None, None, 2])
        told = [places_for(MIXED, number) for number in range(7)]
        self.assertEqual(told, [("a", "b", "c", "d", "e"), ("b", "c", "d", "e"), ("c",), None, None, None, None])
        rings = [ring_for(MIXED, number) for number in range(7)]
        self.assertEqual(rings[:3], [None] * 3)
        for number in (3, 4, 5):
            self.assertIn(sorted(rings[number]), ([(3, 1), (4, 1), (5, -1)], [(3, -1), (4, -1), (5, 1)]))
        self.assertIn(rings[6], ([(6, 1)], [(6, -1)]))

    def test_rings_through_places_that_are_not_counted(self):
        sheet = ([("x", "a", None), ("a", "b", None), ("y", "b", None)], [("a", 1), ("b", 5)])
        for number in range(3):
            self.assertIsNone(places_for(sheet, number))
            self.assertIn(sorted(ring_for(sheet, number)), ([(0, 1), (1, 1), (2, -1)], [(0, -1), (1, -1), (2, 1)]))

    def test_each_line_that_is_not_told(self):
        kinds = set()
        for sheet in some_without_lack(4000, 191):
            numbers = follows(sheet)
            for line in lines_not_told(sheet):
                places, ring = places_for(sheet, line), ring_for(sheet, line)
                self.assertEqual(places is None, numbers[line] is None, (sheet, line))
                self.assertEqual(ring is None, numbers[line] is not None, (sheet, line))
                if ring is None:
                    self.assertTrue(plainly_shows_places(sheet, line, places), (sheet, line, places))
                    self.assertIs(shows_places(sheet, line, places), True)
                else:
                    self.assertTrue(plainly_shows_ring(sheet, line, ring), (sheet, line, ring))
                    self.assertIs(shows_ring(sheet, line, ring), True)
                kinds.add((len(places or ()), len(ring or ())))
        self.assertGreaterEqual(kinds, {(1, 0), (2, 0), (3, 0), (4, 0), (0, 1), (0, 2), (0, 3), (0, 4)})

    def test_by_places_the_number_is_reckoned(self):
        for sheet in some_without_lack(800, 192):
            lines, counted = sheet
            for line in lines_not_told(sheet):
                places = places_for(sheet, line)
                if places is not None:
                    more = sum([many for place, many in counted if place in places]) - came_less_went(lines, places)
                    self.assertEqual(follows(sheet)[line], more if lines[line][1] in places else -more)

    def test_by_rings_another_sheet_is_right(self):
        for sheet in some_without_lack(800, 193):
            lines, counted = sheet
            for line in lines_not_told(sheet):
                ring = ring_for(sheet, line)
                # Each line that isn't told so many less as the ring has it: what is left is the same sheet.
                for by in (1, -3) if ring is not None else ():
                    beside = [(*lines[number][:2], sign * by) for number, sign in ring]
                    self.assertIsNone(lack_of((lines + beside, counted)))
                    self.assertEqual(follows((lines + beside, counted))[:len(lines)], follows(sheet))


class ShowsTest(unittest.TestCase):
    def test_all_places_of_small_sheets(self):
        taken = 0
        for sheet in some_without_lack(500, 194, most_places=5, most_lines=7):
            for line in lines_not_told(sheet):
                right = 0
                for places in rising_tuples(sheet):
                    is_so = plainly_shows_places(sheet, line, places)
                    self.assertIs(shows_places(sheet, line, places), is_so, (sheet, line, places))
                    right += is_so
                self.assertEqual(right > 0, places_for(sheet, line) is not None)
                # Another right one than the one that was told.
                taken += right > 1
        self.assertGreater(taken, 50)

    def test_all_rings_of_small_sheets(self):
        taken = 0
        for sheet in some_without_lack(400, 195, most_places=4, most_lines=6):
            for line in lines_not_told(sheet):
                rings = list(all_rings(sheet, line))
                for ring in rings:
                    self.assertIs(shows_ring(sheet, line, ring), True, (sheet, line, ring))
                    self.assertIs(shows_ring(sheet, line, ring[::-1]), True)
                self.assertEqual(rings != [], ring_for(sheet, line) is not None)
                taken += len(rings) > 2
        self.assertGreater(taken, 50)

    def test_signs_of_all_kinds(self):
        for sheet in some_without_lack(150, 196, most_places=4, most_lines=5):
            numbers = lines_not_told(sheet)
            for line in numbers:
                for signs in itertools.product((None, 1, -1), repeat=len(numbers)):
                    ring = [(number, sign) for number, sign in zip(numbers, signs) if sign is not None]
                    self.assertIs(shows_ring(sheet, line, ring), plainly_shows_ring(sheet, line, ring))

    def test_otherwise_in_one_place(self):
        unlike = [0, 0]
        for sheet in some_without_lack(300, 197):
            for line in lines_not_told(sheet):
                places, ring = places_for(sheet, line), ring_for(sheet, line)
                for thing in unlike_by_one(ring if places is None else places):
                    is_places, is_ring = plainly_shows_places(sheet, line, thing), plainly_shows_ring(sheet, line, thing)
                    self.assertIs(shows_places(sheet, line, thing), is_places, (sheet, line, thing))
                    self.assertIs(shows_ring(sheet, line, thing), is_ring, (sheet, line, thing))
                    unlike[places is None] += not (is_places or is_ring)
        self.assertGreater(min(unlike), 1000)

    def test_places_by_hand(self):
        self.assertIs(shows_places(MIXED, 1, ("b", "c", "d", "e")), True)
        self.assertIs(shows_places(MIXED, 2, ("c",)), True)
        for thing in (("a", "b", "c", "d", "e"), ("b", "c", "d"), ("c", "d", "e"), ("c", "b", "d", "e"),
                      ("b", "b", "c", "d", "e"), ("b", "c", "d", "e", "e"), ("b", "c", "d", "e", "x"),
                      ("b", "c", "d", "e", "zoe"), ["b", "c", "d", "e"], ("b", "c", "d", "e", None),
                      ("b", "c", "d", "e", 0), ("b", "c", "d", ["e"]), ("b", "c", "d", ("e",)), "bcde", (), ("x",),
                      ("B", "c", "d", "e"), ("a", "x"), ("x", "y")):
            self.assertIs(shows_places(MIXED, 1, thing), False, thing)
        # Right of another line, not of this one.
        self.assertIs(shows_places(MIXED, 0, ("b", "c", "d", "e")), False)
        self.assertIs(shows_places(MIXED, 3, ("d",)), False)

    def test_rings_by_hand(self):
        for ring in ([(3, 1), (4, 1), (5, -1)], [(5, 1), (3, -1), (4, -1)], [(5, -1), (4, 1), (6, 1), (3, 1)]):
            self.assertIs(shows_ring(MIXED, 4, ring), True, ring)
        for ring in ([(3, 1), (4, 1)], [(3, 1), (4, 1), (5, 1)], [(3, 1), (4, 1), (5, -1), (5, -1)], [],
                     [(3, 1), (4, 1), (5, -1), (0, 1)], [(3, 1), (4, 1), (5, -1), (7, 1)], [(3, 1), (4, 1), (5, 0)],
                     [(3, 2), (4, 2), (5, -2)], [(3, True), (4, 1), (5, -1)], ((3, 1), (4, 1), (5, -1)),
                     [[3, 1], [4, 1], [5, -1]], [(3, 1), (4, 1), [5, -1]], [(3, 1), (4, 1), (5, -1), (8, 1)],
                     [(3, 1), (4, 1), (5, -1), (-1, 1)], [(3, 1), (4, 1), (5, -1), None], [(6, 1)],
                     [(3, 1), (4, 1), (5, -1), (3, 1), (3, -1)], [(3, 1), (4, 1), (5, -1, 0)], [(3, 1), (4, 1), (5,)]):
            self.assertIs(shows_ring(MIXED, 4, ring), False, ring)
        # The very line must be among them.
        self.assertIs(shows_ring(MIXED, 6, [(3, 1), (4, 1), (5, -1)]), False)
        self.assertIs(shows_ring(MIXED, 6, [(6, -1)]), True)
        for sign in (0, 2, -2, True, False, None):
            self.assertIs(shows_ring(MIXED, 6, [(6, sign)]), False)

    def test_true_for_a_line(self):
        sheet = ([("a", "b", None), ("b", "a", None)], [("a", 0), ("b", 0)])
        self.assertIs(shows_ring(sheet, 1, [(0, 1), (1, 1)]), True)
        self.assertIs(shows_ring(sheet, 1, [(0, 1), (True, 1)]), False)
        self.assertIs(shows_ring(sheet, 1, [(False, 1), (1, 1)]), False)
        self.assertIs(shows_ring(sheet, 1, [(0, 1), (1, True)]), False)

    def test_told_lines_are_in_no_ring(self):
        sheet = ([("a", "b", None), ("b", "a", None), ("a", "b", 0)], [("a", 0), ("b", 0)])
        self.assertIs(shows_ring(sheet, 0, [(0, 1), (1, 1)]), True)
        self.assertIs(shows_ring(sheet, 0, [(0, 1), (2, -1)]), False)

    def test_odd_things(self):
        for sheet in (MIXED, ([("a", "ab", None)], [("a", 0), ("ab", 0)]), ([("a", "b", None)], [])):
            for line in lines_not_told(sheet):
                for thing in ODD:
                    is_places, is_ring = plainly_shows_places(sheet, line, thing), plainly_shows_ring(sheet, line, thing)
                    self.assertIs(shows_places(sheet, line, thing), is_places, thing)
                    self.assertIs(shows_ring(sheet, line, thing), is_ring, thing)

    def test_long_things(self):
        begun = time.perf_counter()
        self.assertIs(shows_ring(MIXED, 4, [(3, 1), (4, 1), (5, -1)] * 20000), False)
        self.assertIs(shows_places(MIXED, 2, ("c",) * 20000), False)
        self.assertLess(time.perf_counter() - begun, 5)


class GreatSheetsTest(unittest.TestCase):
    def test_in_short_time(self):
        begun = time.perf_counter()
        chance = random.Random(198)
        for many in (BIG, 0):
            lines = [(one, other, None) for one, other in zip(GREAT_NAMES, GREAT_NAMES[1:])]
            lines += [(*chance.sample(GREAT_NAMES, 2), many) for _ in range(29)]
            counted = [(place, came_less_went(lines, (place,))) for place in GREAT_NAMES]
            for line in range(11):
                self.assertIs(shows_places((lines, counted), line, places_for((lines, counted), line)), True)
            lines = [line[:2] + (None,) for line in lines]
            for line in range(40):
                ring = ring_for((lines, counted[:-1]), line)
                places = places_for((lines, counted[:-1]), line)
                self.assertEqual([ring, places].count(None), 1)
                self.assertIs(shows_ring((lines, counted[:-1]), line, ring), ring is not None)
                self.assertIs(shows_places((lines, counted[:-1]), line, places), places is not None)
        self.assertLess(time.perf_counter() - begun, 5)

    def test_a_ring_of_all_places(self):
        around = [(one, other, None) for one, other in zip(GREAT_NAMES, GREAT_NAMES[1:] + GREAT_NAMES[:1])]
        sheet = (around, [(place, 0) for place in GREAT_NAMES])
        self.assertIn(sorted(ring_for(sheet, 7)), ([(line, 1) for line in range(12)], [(line, -1) for line in range(12)]))


class HandedInTest(unittest.TestCase):
    def test_lists_tuples_and_names(self):
        lists = [[list(row) for row in rows] for rows in MIXED]
        tuples = tuple([tuple([tuple(row) for row in rows]) for rows in MIXED])
        for sheet in (lists, tuples):
            ahead = copy.deepcopy(sheet)
            self.assertTrue(is_just(places_for(sheet, 1), ("b", "c", "d", "e")))
            self.assertTrue(is_just(ring_for(sheet, 4), ring_for(MIXED, 4)))
            self.assertIs(shows_places(sheet, 1, ("b", "c", "d", "e")), True)
            self.assertIs(shows_ring(sheet, 4, [(3, 1), (4, 1), (5, -1)]), True)
            self.assertTrue(is_just(sheet, ahead))
        self.assertEqual(places_for(line=2, sheet=MIXED), ("c",))
        self.assertEqual(ring_for(line=4, sheet=MIXED), ring_for(MIXED, 4))
        self.assertIs(shows_places(thing=("c",), line=2, sheet=MIXED), True)
        self.assertIs(shows_ring(thing=[(6, 1)], line=6, sheet=MIXED), True)

    def test_a_thing_is_as_it_was(self):
        thing = [(3, 1), (4, 1), (5, -1), [6, 1]]
        ahead = copy.deepcopy(thing)
        shows_ring(MIXED, 4, thing)
        self.assertTrue(is_just(thing, ahead))

    def test_what_is_told_is_the_askers_own(self):
        told = ring_for(MIXED, 4)
        again = list(told)
        told.clear()
        self.assertEqual(ring_for(MIXED, 4), again)


if __name__ == "__main__":
    unittest.main()
