"""Gangs [5] and their paces [6]: fields, refusals, likeness, texts, what is told of them."""

import fractions
import itertools
import math
import unittest
import unittest.mock

from hotpass.errors import BadGang, NoKind
from hotpass.gangs import Gang
from tests.walks import some_gangs, walk

MOST = 10 ** 6
NOT_NUMBERS = (True, False, None, "", "5", [], [5], (), (5,))


class GangFieldsTest(unittest.TestCase):
    def refused(self, what, *args, **named):
        with self.assertRaises(BadGang) as caught:
            Gang(*args, **named)
        self.assertEqual(caught.exception.what, what, (args, named))

    def test_fields(self):
        for takes, hands in itertools.product(((2, 1, 1, 4), [2, 1, 1, 4]), ((1, 1, 1, 2), [1, 1, 1, 2])):
            gang = Gang("ann", takes, hands)
            self.assertEqual((gang.name, gang.takes, gang.hands), ("ann", (2, 1, 1, 4), (1, 1, 1, 2)))
            self.assertIsInstance(gang.takes, tuple)
            self.assertIsInstance(gang.hands, tuple)

    def test_hands_left_out(self):
        self.assertEqual(Gang("ann", [2, 1, 1, 4]).hands, (1, 1, 1, 1))
        self.assertEqual(Gang("ann", [2, 1, 1, 4], None).hands, (1, 1, 1, 1))

    def test_by_name_in_any_order(self):
        named = {"name": "ann", "takes": [2, 1, 1, 4], "hands": [1, 1, 1, 2]}
        for order in itertools.permutations(named):
            gang = Gang(**{name: named[name] for name in order})
            self.assertEqual(gang, Gang("ann", (2, 1, 1, 4), (1, 1, 1, 2)))

    def test_what_was_handed_in_is_not_kept_or_changed(self):
        takes, hands = [2, 1, 1, 4], [1, 1, 1, 2]
        gang = Gang("ann", takes, hands)
        self.assertEqual((takes, hands), ([2, 1, 1, 4], [1, 1, 1, 2]))
        takes[0] = 9
        hands.clear()
        self.assertEqual((gang.takes, gang.hands), ((2, 1, 1, 4), (1, 1, 1, 2)))

    def test_names(self):
        for name in ("a", "z", "ann", "abcdefgh", "stuvwxyz"):
            self.assertEqual(Gang(name, (1, 1, 1, 1)).name, name)
        for name in ("", "abcdefghi", "Ann", "ANN", "an1", "a b", " a", "a ", "a\n", "a_b", "\u00e9", "\u00df", "{", "`",
                     5, 0, True, None, ["a"], ("a",), ["ann"], []):
            self.refused("name", name, (1, 1, 1, 1))

    def test_bad_takes(self):
        self.assertEqual(Gang("ann", (1, MOST, 1, MOST)).takes, (1, MOST, 1, MOST))
        for take in (0, -1, MOST + 1, 10 ** 12) + NOT_NUMBERS:
            for at in range(4):
                takes = [3, 3, 3, 3]
                takes[at] = take
                self.refused("takes", "ann", takes)
                self.refused("takes", "ann", tuple(takes))
        for takes in ([], (), [1, 1, 1], (1, 1, 1), [1] * 5, (1,) * 5, "1111", "", 1, 1111, True, None):
            self.refused("takes", "ann", takes)

    def test_bad_hands(self):
        self.assertEqual(Gang("ann", (1, 1, 1, 1), (1, 4, 1, 4)).hands, (1, 4, 1, 4))
        for many in (0, -1, 5) + NOT_NUMBERS:
            for at in range(4):
                hands = [2, 2, 2, 2]
                hands[at] = many
                self.refused("hands", "ann", (1, 1, 1, 1), hands)
                self.refused("hands", "ann", (1, 1, 1, 1), tuple(hands))
        for hands in ([], (), [1, 1, 1], (1, 1, 1), [1] * 5, (1,) * 5, "1111", "", 1, 0, True, False):
            self.refused("hands", "ann", (1, 1, 1, 1), hands)

    def test_first_at_fault_is_told(self):
        right = {"name": "ann", "takes": [2, 1, 1, 4], "hands": [1, 1, 1, 2]}
        wrong = {"name": "", "takes": [0, 1, 1, 4], "hands": True}
        names = list(right)
        for faults in itertools.product((False, True), repeat=3):
            if not any(faults):
                continue
            named = {name: wrong[name] if fault else right[name] for name, fault in zip(names, faults)}
            self.refused(names[faults.index(True)], **named)


class LikenessTest(unittest.TestCase):
    def test_len(self):
        self.assertEqual(len(Gang("ann", (1, 1, 1, 1))), 4)
        self.assertEqual(len(Gang("ann", (1, 1, 1, 1), (1, 2, 3, 4))), 10)
        self.assertEqual(len(Gang("ann", (1, 1, 1, 1), (4, 4, 4, 4))), 16)

    def test_alike(self):
        self.assertTrue(Gang("ann", (1, 2, 3, 4)) == Gang("ann", [1, 2, 3, 4], [1, 1, 1, 1]))
        self.assertFalse(Gang("ann", (1, 2, 3, 4)) != Gang("ann", [1, 2, 3, 4], [1, 1, 1, 1]))

    def test_unlike(self):
        gang = Gang("ann", (1, 2, 3, 4), (1, 1, 1, 2))
        alike_but = type("Other", (), {"name": "ann", "takes": (1, 2, 3, 4), "hands": (1, 1, 1, 2)})()
        for other in (Gang("bob", (1, 2, 3, 4), (1, 1, 1, 2)), Gang("ann", (1, 2, 3, 5), (1, 1, 1, 2)),
                      Gang("ann", (1, 2, 3, 4), (1, 1, 2, 2)), None, True, 5, "", str(gang), [],
                      ("ann", (1, 2, 3, 4), (1, 1, 1, 2)), unittest.mock.ANY, alike_but):
            self.assertIs(gang == other, False)
            self.assertIs(gang != other, True)

    def test_texts(self):
        gang = Gang("ann", [2, 1, 1, 4], [1, 1, 1, 2])
        self.assertEqual(str(gang), "Gang('ann', (2, 1, 1, 4), (1, 1, 1, 2))")
        self.assertEqual(repr(gang), "Gang('ann', (2, 1, 1, 4), (1, 1, 1, 2))")
        self.assertEqual(str(Gang("b", (1, 1, 1, 1))), "Gang('b', (1, 1, 1, 1), (1, 1, 1, 1))")
        for gang in some_gangs(20, 1):
            self.assertEqual(eval(repr(gang)), gang)


class ChangedGangTest(unittest.TestCase):
    def setUp(self):
        self.gang = Gang("ann", (2, 1, 1, 4), (1, 1, 1, 2))

    def tearDown(self):
        self.assertEqual(self.gang, Gang("ann", (2, 1, 1, 4), (1, 1, 1, 2)))

    def test_taking(self):
        told = [self.gang.taking(kind, 9).takes for kind in range(4)]
        self.assertEqual(told, [(9, 1, 1, 4), (2, 9, 1, 4), (2, 1, 9, 4), (2, 1, 1, 9)])
        self.assertEqual(self.gang.taking(take=MOST, kind=1), Gang("ann", (2, MOST, 1, 4), (1, 1, 1, 2)))
        self.assertEqual(self.gang.taking(0, 2), self.gang)
        self.assertIsNot(self.gang.taking(0, 2), self.gang)

    def test_handed(self):
        told = [self.gang.handed(kind, 3).hands for kind in range(4)]
        self.assertEqual(told, [(3, 1, 1, 2), (1, 3, 1, 2), (1, 1, 3, 2), (1, 1, 1, 3)])
        self.assertEqual(self.gang.handed(many=4, kind=1), Gang("ann", (2, 1, 1, 4), (1, 4, 1, 2)))
        self.assertIsNot(self.gang.handed(0, 1), self.gang)

    def test_no_kind_ahead_of_bad_gang(self):
        for kind in (-1, -4, 4, 5, 10 ** 12):
            for worth in (1, 0, MOST + 1, None, "x", [1]):
                for change in (self.gang.taking, self.gang.handed):
                    with self.assertRaises(NoKind) as caught:
                        change(kind, worth)
                    self.assertEqual(caught.exception.what, kind)

    def test_bad_gang(self):
        for kind in range(4):
            for take in (0, -1, MOST + 1) + NOT_NUMBERS:
                with self.assertRaises(BadGang) as caught:
                    self.gang.taking(kind, take)
                self.assertEqual(caught.exception.what, "takes")
            for many in (0, -1, 5) + NOT_NUMBERS:
                with self.assertRaises(BadGang) as caught:
                    self.gang.handed(kind, many)
                self.assertEqual(caught.exception.what, "hands")


class PaceTest(unittest.TestCase):
    def test_through(self):
        self.assertEqual(Gang("ann", (2, 3, 5, 40), (1, 2, 3, 4)).through(), 10)
        self.assertEqual(Gang("ann", (MOST, MOST, MOST, 1)).through(), 3 * MOST)
        for gang in some_gangs(20, 2):
            begins = walk(gang, [7])[0][1]
            self.assertEqual(gang.through(), begins[3] - begins[0])

    def test_pace(self):
        self.assertEqual(Gang("ann", (2, 1, 1, 4)).pace(), (4, 1))
        self.assertEqual(Gang("ann", (2, 1, 1, 4), (1, 1, 1, 4)).pace(), (2, 1))
        self.assertEqual(Gang("ann", (6, 1, 1, 1), (4, 1, 1, 1)).pace(), (3, 2))
        self.assertEqual(Gang("ann", (1, 1, 1, 1), (4, 4, 4, 4)).pace(), (1, 4))
        self.assertEqual(Gang("ann", (MOST, MOST - 1, 1, 1), (4, 4, 3, 3)).pace(), (MOST // 4, 1))
        self.assertEqual(Gang("ann", (MOST - 1, 1, 1, 1), (4, 4, 3, 3)).pace(), (MOST - 1, 4))

    def test_pace_and_binds_against_fractions(self):
        for gang in some_gangs(500, 3, most=12):
            parts = [fractions.Fraction(take, many) for take, many in zip(gang.takes, gang.hands)]
            top, bottom = gang.pace()
            self.assertEqual(fractions.Fraction(top, bottom), max(parts))
            self.assertEqual(math.gcd(top, bottom), 1)
            self.assertIsInstance(gang.pace(), tuple)
            self.assertEqual(gang.binds(), [kind for kind in range(4) if parts[kind] == max(parts)])

    def test_binds(self):
        self.assertEqual(Gang("ann", (2, 1, 1, 4)).binds(), [3])
        self.assertEqual(Gang("ann", (2, 4, 1, 8), (1, 2, 1, 4)).binds(), [0, 1, 3])
        self.assertEqual(Gang("ann", (5, 5, 5, 5)).binds(), [0, 1, 2, 3])
        self.assertEqual(Gang("ann", (MOST, MOST - 1, 1, 1)).binds(), [0])

    def test_told_lists_are_the_askers_own(self):
        gang = Gang("ann", (5, 5, 5, 5))
        told = gang.binds()
        told.clear()
        self.assertEqual(gang.binds(), [0, 1, 2, 3])


if __name__ == "__main__":
    unittest.main()
