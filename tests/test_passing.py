"""Passing [8] and what is held of it [9]; of [1] (a) and (b)."""

import copy
import random
import unittest

from hotpass.gangs import Gang
from hotpass.passing import held, passed, shows_passed
from tests.walks import is_just, some_gangs, unlike_by_one, walk

FAR = 10 ** 12


def some_passings(many, seed, most=6):
    """Arguments of passed in which holes, misses and cold come about often and together."""
    chance = random.Random(seed)
    for gang in some_gangs(many, seed, most):
        pieces = chance.randint(0, 14)
        span = chance.choice((0, 10, 60))
        asks = sorted(chance.randint(0, span) for _ in range(pieces))
        holes = chance.choice((None, [], [chance.choice((0, 0, 3, 20)) for _ in range(chance.randint(1, 10))]))
        missed = chance.choice((None, [], [at for at in range(pieces) if chance.random() < 0.3]))
        life = chance.choice((None, gang.through() + chance.randint(-3, 12), chance.randint(0, 8)))
        yield gang, asks, holes, missed, None if life is None else max(0, life)


class PassedTest(unittest.TestCase):
    def test_one_piece(self):
        gang = Gang("ann", (2, 1, 1, 4))
        self.assertEqual(passed(gang, [3]), [("closed", (3, 5, 6, 7), 11)])
        self.assertEqual(passed(gang, [3], [5]), [("closed", (3, 5, 6, 7), 16)])
        self.assertEqual(passed(gang, [3], None, [0]), [("missed", (3, 5), 6)])

    def test_pieces_wait(self):
        gang = Gang("ann", (2, 1, 1, 4))
        self.assertEqual(passed(gang, [0, 0, 0, 0]), [
            ("closed", (0, 2, 3, 4), 8), ("closed", (2, 4, 5, 8), 12),
            ("closed", (4, 6, 8, 12), 16), ("closed", (6, 8, 12, 16), 20)])

    def test_none_asked(self):
        self.assertEqual(passed(Gang("ann", (2, 1, 1, 4)), []), [])
        self.assertEqual(passed(Gang("ann", (2, 1, 1, 4)), (), [5], [], 3), [])

    def test_against_a_walk(self):
        words = set()
        for args in some_passings(1500, 21):
            told = passed(*args)
            self.assertTrue(is_just(told, walk(*args)), (args, told))
            words |= {word for word, _, _ in told}
        self.assertEqual(words, {"closed", "missed", "cold"})

    def test_longer_takes_against_a_walk(self):
        for args in some_passings(60, 22, most=40):
            self.assertEqual(passed(*args), walk(*args), args)

    def test_two_hundred_against_a_walk(self):
        gang = Gang("ann", (3, 2, 4, 5), (2, 1, 3, 2))
        holes = [7, 0, 60, 1] * 10
        missed = list(range(3, 200, 7))
        for asks, life in (([0] * 200, None), ([number * 2 for number in range(200)], 14),
                           ([number // 50 * 90 for number in range(200)], 40)):
            self.assertEqual(passed(gang, asks, holes, missed, life), walk(gang, asks, holes, missed, life))

    def test_far_apart(self):
        gang = Gang("ann", (2, 1, 1, 4), (1, 2, 1, 2))
        asks = [0, 0, 5, 10 ** 6, 10 ** 6, FAR - 1, FAR, FAR]
        holes = [3, 10 ** 5, 0, 9]
        self.assertEqual(passed(gang, asks, holes, [2], 9), walk(gang, asks, holes, [2], 9))

    def test_asks_shifted_far_out(self):
        for gang, asks, holes, missed, life in some_passings(100, 23):
            told = [(word, tuple(begin + FAR for begin in begins), end + FAR)
                    for word, begins, end in passed(gang, asks, holes, missed, life)]
            self.assertEqual(passed(gang, [ask + FAR for ask in asks], holes, missed, life), told)

    def test_greatest_takes(self):
        most = 10 ** 6
        gang = Gang("ann", (most,) * 4)
        self.assertEqual(passed(gang, [0, 0], [most]), [
            ("closed", (0, most, 2 * most, 3 * most), 5 * most),
            ("closed", (most, 2 * most, 3 * most, 5 * most), 6 * most)])
        runs = passed(gang, [0] * 200, [most] * 40)
        self.assertEqual(runs[-1][2], (3 + 200 + 40) * most)

    def test_closers_are_free_in_any_order(self):
        gang = Gang("ann", (1, 1, 1, 2), (1, 1, 1, 2))
        self.assertEqual([run[2] for run in passed(gang, [0] * 4, [20])], [25, 6, 8, 10])

    def test_holes_go_by_closings_that_begin(self):
        gang = Gang("ann", (1, 1, 1, 2))
        told = passed(gang, [0, 10, 20, 30], [0, 50], [0])
        self.assertEqual([run[2] for run in told], [2, 15, 75, 77])

    def test_a_miss_wants_a_holder_and_takes_none(self):
        gang = Gang("ann", (1, 1, 1, 9), (2, 2, 1, 1))
        self.assertEqual(passed(gang, [0, 0, 0, 0], None, [2]), [
            ("closed", (0, 1, 2, 3), 12), ("closed", (0, 1, 3, 12), 21),
            ("missed", (1, 2), 12), ("closed", (1, 3, 12, 21), 30)])

    def test_life_just_long_enough(self):
        gang = Gang("ann", (2, 1, 1, 4))
        self.assertEqual(passed(gang, [0], life=4), [("closed", (0, 2, 3, 4), 8)])
        self.assertEqual(passed(gang, [0], life=3), [("cold", (0, 2, 3), 4)])
        self.assertEqual(passed(gang, [0], life=2), [("cold", (0, 2), 3)])
        self.assertEqual(passed(gang, [5], life=1), [("cold", (5,), 7)])
        self.assertEqual(passed(gang, [5, 5], life=0), [("cold", (5,), 6), ("cold", (6,), 7)])

    def test_life_of_a_missed_one(self):
        gang = Gang("ann", (2, 1, 1, 4))
        self.assertEqual(passed(gang, [0], missed=[0], life=3), [("missed", (0, 2), 3)])
        self.assertEqual(passed(gang, [0], missed=[0], life=2), [("cold", (0, 2), 3)])

    def test_cold_ones_make_room_at_once(self):
        gang = Gang("ann", (1, 1, 1, 30))
        self.assertEqual(passed(gang, [0] * 3, life=5), [
            ("closed", (0, 1, 2, 3), 33), ("cold", (1, 2, 3), 7), ("cold", (2, 3, 7), 8)])

    def test_left_out_or_none(self):
        gang = Gang("ann", (2, 1, 1, 4))
        asks = [0, 1, 2, 9]
        told = passed(gang, asks)
        self.assertEqual(passed(gang, asks, None, None, None), told)
        self.assertEqual(passed(gang, asks, [], [], 10 ** 6), told)
        self.assertEqual(passed(life=None, missed=(), holes=(), asks=tuple(asks), gang=gang), told)

    def test_lists_and_tuples(self):
        for gang, asks, holes, missed, life in some_passings(50, 24):
            told = passed(gang, asks, holes, missed, life)
            holes = None if holes is None else tuple(holes)
            missed = None if missed is None else tuple(missed)
            self.assertEqual(passed(gang, tuple(asks), holes, missed, life), told)

    def test_nothing_handed_in_is_changed(self):
        for args in some_passings(50, 25):
            before = copy.deepcopy(args)
            told = passed(*args)
            held(told, 9)
            shows_passed(*args, told)
            self.assertEqual(args, before)
            again = list(told)
            told.clear()
            self.assertEqual(passed(*args), again)

    def test_no_hand_holds_two_and_none_passes(self):
        for args in some_passings(200, 26):
            gang, runs = args[0], passed(*args)
            for beat in range(max([end for _, _, end in runs], default=0) + 1):
                for pieces, many in zip(held(runs, beat), gang.hands):
                    self.assertLessEqual(len(pieces), many)
            for kind in range(4):
                begins = [run[1][kind] for run in runs if len(run[1]) > kind]
                self.assertEqual(begins, sorted(begins))


class HeldTest(unittest.TestCase):
    def test_about_begins_and_ends(self):
        runs = [("closed", (0, 2, 3, 4), 8), ("missed", (2, 4), 5), ("cold", (4, 6, 8), 12)]
        told = {0: ([0], [], [], []), 1: ([0], [], [], []), 2: ([1], [0], [], []), 3: ([1], [], [0], []),
                4: ([2], [1], [], [0]), 5: ([2], [], [], [0]), 6: ([], [2], [], [0]), 7: ([], [2], [], [0]),
                8: ([], [], [2], []), 11: ([], [], [2], []), 12: ([], [], [], []), FAR: ([], [], [], [])}
        for beat, hands in told.items():
            self.assertTrue(is_just(held(runs, beat), hands), beat)

    def test_against_the_words_of_the_document(self):
        for args in some_passings(100, 27):
            runs = passed(*args)
            beats = {beat + by for _, begins, end in runs for beat in (*begins, end) for by in (-1, 0, 1)}
            for beat in sorted(beats | {0}):
                if beat < 0:
                    continue
                hands = ([], [], [], [])
                for number, (_, begins, end) in enumerate(runs):
                    ends = (*begins[1:], end)
                    for kind in range(len(begins)):
                        if beat in range(begins[kind], ends[kind]):
                            hands[kind].append(number)
                self.assertEqual(held(runs, beat), hands)

    def test_several_of_a_kind(self):
        gang = Gang("ann", (2, 1, 1, 4), (2, 1, 1, 2))
        self.assertEqual(held(passed(gang, [0, 0, 0]), 1), ([0, 1], [], [], []))

    def test_lists_and_tuples(self):
        self.assertEqual(held([["closed", [0, 2, 3, 4], 8]], beat=3), ([], [], [0], []))
        self.assertEqual(held(beat=3, runs=(("closed", (0, 2, 3, 4), 8),)), ([], [], [0], []))
        self.assertEqual(held([], 0), ([], [], [], []))

    def test_told_lists_are_the_askers_own(self):
        runs = passed(Gang("ann", (2, 1, 1, 4)), [0])
        told = held(runs, 100)
        told[0].append(7)
        self.assertEqual(told, ([7], [], [], []))
        self.assertEqual(held(runs, 100), ([], [], [], []))


class ShowsPassedTest(unittest.TestCase):
    def test_true_of_what_is_told(self):
        for args in some_passings(100, 28):
            self.assertIs(shows_passed(*args, passed(*args)), True)

    def test_false_of_all_that_is_unlike(self):
        for gang, asks, holes, missed, life in (
                (Gang("ann", (1, 1, 1, 1)), [0], None, None, None),
                (Gang("ann", (1, 2, 1, 4)), [0, 0, 1, 9], [3], [1], 5),
                (Gang("ann", (1, 1, 1, 1)), [], None, None, None)):
            told = passed(gang, asks, holes, missed, life)
            for thing in unlike_by_one(told):
                # Some steps lead back to what was told, as [] where nothing was.
                told_so = is_just(thing, told)
                self.assertIs(shows_passed(gang, asks, holes, missed, life, thing), told_so, thing)

    def test_true_is_not_one(self):
        gang = Gang("ann", (1, 1, 1, 1))
        self.assertIs(shows_passed(gang, [0], None, None, None, [("closed", (0, 1, 2, 3), 4)]), True)
        self.assertIs(shows_passed(gang, [0], None, None, None, [("closed", (0, True, 2, 3), 4)]), False)
        self.assertIs(shows_passed(gang, [0], None, None, None, [("closed", (False, 1, 2, 3), 4)]), False)

    def test_anything_may_be_asked(self):
        gang = Gang("ann", (1, 1, 1, 1))
        deep = [([([([5],)],)],)]
        for thing in (None, True, False, 0, -1, "", "closed", [], (), [[]], deep, [None], ["closed"],
                      [("closed",)], [("closed", None, None)], (("closed", (0, 1, 2, 3), 4),)):
            self.assertIs(shows_passed(gang, [0], None, None, None, thing), False)
        self.assertIs(shows_passed(thing=[], life=None, missed=None, holes=None, asks=[], gang=gang), True)


if __name__ == "__main__":
    unittest.main()
