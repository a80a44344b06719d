"""Metals [4]: fields, refusals, cooling, likeness, texts."""

import itertools
import random
import unittest
import unittest.mock

from hotpass.errors import BadMetal
from hotpass.metals import Metal

MOST = 10 ** 6
PAIRS = ((5, 10), (1, 20), (3, 0), (2, 7), (4, 1), (1, 3))
NOT_NUMBERS = (True, False, None, "", "5", "full", [], [5], (), (5,), ((5, 5),), [(5, 5)])


def walked(metal, beats):
    """The heats of a piece from beat 0 to that many, lost beat by beat."""
    steps = [loss for many, loss in metal.losses for _ in range(many)]
    heats = [metal.full]
    for beat in range(beats):
        loss = steps[beat] if beat < len(steps) else metal.losses[-1][1]
        heats.append(max(metal.air, heats[-1] - loss))
    return heats


def some_metals(many, seed):
    chance = random.Random(seed)
    for _ in range(many):
        full = chance.randint(0, 60)
        losses = [(chance.randint(1, 6), chance.choice((0, 0, 1, 2, 3, 7, 20)))
                  for _ in range(chance.randint(1, 6))]
        yield Metal(full, chance.randint(0, full), losses, chance.choice((0, 0, chance.randint(0, full))))


class MetalFieldsTest(unittest.TestCase):
    def refused(self, what, *args, **named):
        with self.assertRaises(BadMetal) as caught:
            Metal(*args, **named)
        self.assertEqual(caught.exception.what, what, (args, named))

    def test_fields(self):
        for losses in (PAIRS[:2], list(PAIRS[:2])):
            metal = Metal(900, 600, losses, 20)
            self.assertEqual((metal.full, metal.least, metal.losses, metal.air),
                             (900, 600, ((5, 10), (1, 20)), 20))
            self.assertIsInstance(metal.losses, tuple)

    def test_air_left_out(self):
        self.assertEqual(Metal(900, 600, [(5, 10)]).air, 0)

    def test_one_to_six_pairs(self):
        for many in range(1, 7):
            self.assertEqual(Metal(900, 600, list(PAIRS[:many])).losses, PAIRS[:many])
            self.assertEqual(Metal(900, 600, PAIRS[:many]).losses, PAIRS[:many])

    def test_by_name_in_any_order(self):
        named = {"full": 900, "least": 600, "losses": [(5, 10)], "air": 3}
        for order in itertools.permutations(named):
            self.assertEqual(Metal(**{name: named[name] for name in order}), Metal(900, 600, [(5, 10)], 3))
        self.assertEqual(Metal(900, 600, air=3, losses=((5, 10),)), Metal(900, 600, [(5, 10)], 3))

    def test_what_was_handed_in_is_not_kept_or_changed(self):
        losses = [(5, 10), (1, 20)]
        metal = Metal(900, 600, losses)
        self.assertEqual(losses, [(5, 10), (1, 20)])
        losses[0] = (1, 900)
        losses.append((1, 1))
        self.assertEqual(metal.losses, ((5, 10), (1, 20)))
        self.assertEqual(metal.heat(1), 890)

    def test_at_the_bounds(self):
        metal = Metal(MOST, MOST, [(MOST, MOST)] * 6, MOST)
        self.assertEqual((metal.full, metal.least, metal.air), (MOST, MOST, MOST))
        self.assertEqual(metal.losses, ((MOST, MOST),) * 6)
        metal = Metal(0, 0, [(1, 0)], 0)
        self.assertEqual((metal.full, metal.least, metal.air, metal.losses), (0, 0, 0, ((1, 0),)))

    def test_bad_full(self):
        for full in (-1, MOST + 1, 10 ** 12) + NOT_NUMBERS:
            self.refused("full", full, 0, [(1, 1)], 0)

    def test_bad_least(self):
        for least in (-1, 901, MOST + 1) + NOT_NUMBERS:
            self.refused("least", 900, least, [(1, 1)], 0)
        self.assertEqual(Metal(900, 900, [(1, 1)]).least, 900)

    def test_bad_air(self):
        for air in (-1, 901, MOST + 1) + NOT_NUMBERS:
            self.refused("air", 900, 600, [(1, 1)], air)
        self.assertEqual(Metal(900, 600, [(1, 1)], 900).air, 900)

    def test_bad_pairs(self):
        bad = [(0, 1), (-1, 1), (1, -1), (MOST + 1, 1), (1, MOST + 1), (True, 1), (1, True), (1, False),
               (None, 1), (1, None), ("1", 1), (1, "1"), ((1,), 1), (1, (1,)), ([1], 1), (), (1,), (1, 1, 1),
               [1, 1], [], 1, True, None, "ab", ""]
        for pair in bad:
            self.refused("losses", 900, 600, [pair])
            self.refused("losses", 900, 600, (pair,))
            self.refused("losses", 900, 600, [(1, 1), pair])
            self.refused("losses", 900, 600, [pair, (1, 1)])

    def test_bad_losses(self):
        for losses in ([], (), [(1, 1)] * 7, ((1, 1),) * 7, 5, 0, True, False, None, "", "ab", (1, 1), [1, 1]):
            self.refused("losses", 900, 600, losses)

    def test_first_at_fault_is_told(self):
        right = {"full": 900, "least": 600, "air": 3, "losses": [(5, 10)]}
        wrong = {"full": "x", "least": -1, "air": None, "losses": []}
        names = list(right)
        for faults in itertools.product((False, True), repeat=4):
            if not any(faults):
                continue
            named = {name: wrong[name] if fault else right[name] for name, fault in zip(names, faults)}
            self.refused(names[faults.index(True)], **named)


class CoolingTest(unittest.TestCase):
    def test_heat_against_a_walk(self):
        for metal in some_metals(200, 4):
            self.assertEqual([metal.heat(beats) for beats in range(60)], walked(metal, 59), metal)

    def test_heat_left_out(self):
        for metal in some_metals(20, 5):
            self.assertEqual(metal.heat(), metal.full)
            self.assertEqual(metal.heat(beats=3), metal.heat(3))

    def test_heat_about_the_ends_of_pairs(self):
        metal = Metal(900, 600, [(5, 10), (1, 20), (2, 0), (3, 1)])
        told = [metal.heat(beats) for beats in (4, 5, 6, 7, 8, 9, 10, 11, 12, 13)]
        self.assertEqual(told, [860, 850, 830, 830, 830, 829, 828, 827, 826, 825])

    def test_heat_far_out(self):
        self.assertEqual(Metal(900, 600, [(5, 10)], 20).heat(10 ** 12), 20)
        self.assertEqual(Metal(900, 600, [(5, 10)]).heat(10 ** 12), 0)
        self.assertEqual(Metal(900, 600, [(5, 10), (1, 0)]).heat(10 ** 12), 850)
        self.assertEqual(Metal(MOST, 0, [(MOST - 1, 1), (1, 0)]).heat(10 ** 12), 1)

    def test_never_below_air(self):
        metal = Metal(100, 90, [(1, 7)], 91)
        self.assertEqual([metal.heat(beats) for beats in range(4)], [100, 93, 91, 91])

    def test_life_and_cools_to_against_heat(self):
        for metal in some_metals(300, 6):
            heats = walked(metal, 200)
            hot = [beats for beats, heat in enumerate(heats) if heat >= metal.least]
            self.assertEqual(metal.life(), None if len(hot) == len(heats) else hot[-1], metal)
            for heat in range(metal.full + 3):
                low = [beats for beats, worth in enumerate(heats) if worth <= heat]
                self.assertEqual(metal.cools_to(heat), low[0] if low else None, (metal, heat))

    def test_life(self):
        self.assertEqual(Metal(900, 600, [(5, 10), (1, 20)]).life(), 5 + 12)
        self.assertEqual(Metal(900, 900, [(1, 1)]).life(), 0)
        self.assertEqual(Metal(900, 899, [(1, 1)]).life(), 1)
        self.assertIsNone(Metal(900, 0, [(1, 900)]).life())
        self.assertIsNone(Metal(900, 600, [(1, 900)], 600).life())
        self.assertEqual(Metal(900, 600, [(1, 900)], 599).life(), 0)
        self.assertIsNone(Metal(900, 600, [(3, 100), (1, 0)]).life())
        self.assertEqual(Metal(900, 601, [(3, 100), (1, 0)]).life(), 2)
        self.assertEqual(Metal(MOST, 1, [(MOST, 0)] * 5 + [(1, 1)]).life(), 5 * MOST + MOST - 1)

    def test_cools_to(self):
        metal = Metal(900, 600, [(5, 10), (1, 20), (1, 0)], 40)
        self.assertEqual([metal.cools_to(heat) for heat in (10 ** 12, 901, 900)], [0, 0, 0])
        self.assertEqual([metal.cools_to(heat) for heat in (899, 890, 889, 850, 849, 830)], [1, 1, 2, 5, 6, 6])
        self.assertEqual([metal.cools_to(heat) for heat in (829, 40, 0)], [None, None, None])
        metal = Metal(900, 600, [(1, 50)], 40)
        self.assertEqual([metal.cools_to(heat) for heat in (41, 40, 39, 0)], [18, 18, None, None])
        self.assertEqual(metal.cools_to(heat=0), None)
        self.assertEqual(Metal(0, 0, [(1, 0)]).cools_to(0), 0)

    def test_asking_changes_nothing(self):
        metal = Metal(900, 600, [(5, 10), (1, 20)], 3)
        for _ in range(2):
            self.assertEqual((metal.heat(7), metal.life(), metal.cools_to(600)), (810, 17, 18))
        self.assertEqual(metal, Metal(900, 600, [(5, 10), (1, 20)], 3))


class LikenessTest(unittest.TestCase):
    def test_alike(self):
        self.assertTrue(Metal(900, 600, [(5, 10)]) == Metal(900, 600, ((5, 10),), 0))
        self.assertFalse(Metal(900, 600, [(5, 10)]) != Metal(900, 600, ((5, 10),), 0))

    def test_unlike_metals(self):
        metal = Metal(900, 600, [(5, 10)], 3)
        for other in (Metal(901, 600, [(5, 10)], 3), Metal(900, 601, [(5, 10)], 3), Metal(900, 600, [(5, 11)], 3),
                      Metal(900, 600, [(6, 10)], 3), Metal(900, 600, [(5, 10), (5, 10)], 3),
                      Metal(900, 600, [(5, 10)], 4)):
            self.assertFalse(metal == other)
            self.assertTrue(metal != other)

    def test_unlike_all_else(self):
        metal = Metal(900, 600, [(5, 10)], 3)
        alike_but = type("Other", (), {"full": 900, "least": 600, "losses": ((5, 10),), "air": 3})()
        for other in (None, True, 0, "", str(metal), (900, 600, ((5, 10),), 3), [], unittest.mock.ANY, alike_but):
            self.assertIs(metal == other, False)
            self.assertIs(metal != other, True)

    def test_texts(self):
        metal = Metal(900, 600, [(5, 10), (1, 20)])
        self.assertEqual(str(metal), "Metal(900, 600, ((5, 10), (1, 20)), 0)")
        self.assertEqual(repr(metal), "Metal(900, 600, ((5, 10), (1, 20)), 0)")
        self.assertEqual(str(Metal(9, 6, [(5, 1)], 2)), "Metal(9, 6, ((5, 1),), 2)")
        for metal in some_metals(20, 7):
            self.assertEqual(eval(repr(metal)), metal)
            self.assertEqual(str(metal), repr(metal))


if __name__ == "__main__":
    unittest.main()
