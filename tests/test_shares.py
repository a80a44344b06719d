"""A fire shared for ever [13]; of [1] (d)."""

import copy
import unittest

from hotpass.shares import for_ever
from tests.walks import is_just, some_shares, walk_shares


class ForEverTest(unittest.TestCase):
    def test_one_share(self):
        self.assertEqual(for_ever([(1, 1, 0, 0)]), ("kept", 0))
        self.assertEqual(for_ever([(2, 3, 0, 20)], 2), ("kept", 0))
        self.assertEqual(for_ever([(2, 4, 5, 0)], 2), ("kept", 0))
        self.assertEqual(for_ever([(1, 2, 7, 0)]), ("burnt", 0, 1))
        self.assertEqual(for_ever([(3, 3, 0, 0)], 1), ("kept", 0))

    def test_pieces_wait(self):
        self.assertEqual(for_ever([(2, 2, 0, 0), (3, 1, 0, 3)]), ("burnt", 1, 0))
        self.assertEqual(for_ever([(2, 1, 0, 0), (2, 1, 0, 1)]), ("kept", 1))
        self.assertEqual(for_ever([(2, 1, 0, 1), (2, 1, 0, 1)]), ("kept", 1))
        self.assertEqual(for_ever([(4, 1, 0, 3)] * 4), ("kept", 3))
        self.assertEqual(for_ever([(4, 1, 0, 3)] * 5), ("burnt", 4, 0))

    def test_the_share_ahead_goes_first(self):
        self.assertEqual(for_ever([(2, 1, 0, 0), (2, 1, 0, 0)]), ("burnt", 1, 0))
        self.assertEqual(for_ever([(2, 1, 0, 1), (2, 1, 1, 0), (2, 1, 0, 0)]), ("burnt", 1, 0))
        self.assertEqual(for_ever([(2, 1, 1, 0), (2, 1, 0, 1), (2, 1, 0, 0)]), ("burnt", 1, 0))

    def test_least_last_of_all_that_burn(self):
        # Share 1 burns sooner, though share 0 burns as well.
        self.assertEqual(for_ever([(1, 2, 5, 0), (1, 2, 0, 0)]), ("burnt", 1, 1))
        # At the same last: of the first share, of these the least.
        self.assertEqual(for_ever([(1, 3, 0, 0), (1, 3, 0, 0)]), ("burnt", 0, 1))

    def test_a_late_burning(self):
        # A sixtieth too many in all: a long while nothing burns.
        shares = [(4, 1, 0, 20), (6, 1, 40, 20), (5, 3, 0, 20)]
        told = for_ever(shares)
        self.assertEqual(told, walk_shares(shares, 1, 5000))
        self.assertEqual(told[0], "burnt")
        self.assertGreater(told[2], 100)

    def test_just_full(self):
        for shares in ([(2, 1, 0, 20), (3, 1, 7, 20), (6, 1, 40, 20)], [(4, 1, 3, 20), (6, 1, 0, 20), (5, 3, 0, 20)],
                       [(5, 1, 40, 9), (5, 4, 0, 13)], [(6, 6, 0, 2)]):
            self.assertEqual(for_ever(shares), walk_shares(shares, 1, 3000), shares)

    def test_against_a_long_walk(self):
        words = set()
        for shares, mouth in some_shares(800, 71):
            told = for_ever(shares, mouth)
            self.assertTrue(is_just(told, walk_shares(shares, mouth, 2500)), (shares, mouth, told))
            words.add(told[0])
        self.assertEqual(words, {"burnt", "kept"})

    def test_bounds(self):
        for shares, mouth in (([(6, 6, 40, 20)] * 6, 4), ([(6, 4, 40, 20)] * 6, 4), ([(1, 6, 40, 20)] * 6, 4),
                              ([(6, 1, 40, 0)] * 6, 4), ([(beats, 1, 40, 20) for beats in range(1, 7)], 3),
                              ([(beats, beats, 0, 20) for beats in range(1, 5)], 4),
                              ([(6, 1, 0, 0)], 1), ([(beats, 2, 40 - beats, beats) for beats in range(1, 7)], 4)):
            self.assertEqual(for_ever(shares, mouth), walk_shares(shares, mouth, 3000), shares)

    def test_lists_tuples_and_names(self):
        shares = [(2, 1, 0, 1), (2, 1, 0, 1), (4, 1, 0, 9)]
        self.assertEqual(for_ever(shares), walk_shares(shares, 1, 600))
        for handed in (tuple(shares), [list(share) for share in shares], tuple([list(share) for share in shares])):
            self.assertEqual(for_ever(handed), for_ever(shares))
            self.assertEqual(for_ever(mouth=2, shares=handed), ("kept", 1))
            self.assertEqual(for_ever(handed, mouth=3), ("kept", 0))

    def test_nothing_is_changed_and_the_same_is_told(self):
        shares = [[2, 1, 0, 1], [3, 1, 4, 2]]
        kept = copy.deepcopy(shares)
        self.assertEqual(for_ever(shares), for_ever(shares))
        self.assertEqual(shares, kept)


if __name__ == "__main__":
    unittest.main()
