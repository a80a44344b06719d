"""Rounds of a shared fire [14]; of [1] (d)."""

import copy
import random
import unittest

from hotpass.rounds import round_of, shows_round
from hotpass.shares import for_ever
from tests.walks import asked_up_to, some_shares, unlike_by_one

TRUE_ROUND = (0, 4, [(0, 0, 0), (1, 1, 0), (2, 0, 1)])
SHARES = [(2, 1, 0, 0), (4, 1, 0, 3)]


def is_written(shares, thing):
    """Whether it has the kinds and the bounds of a round, whatever it stands for."""
    if thing.__class__ is not tuple or [item.__class__ for item in thing] != [int, int, list]:
        return False
    begin, many, rows = thing
    if not 1 <= many <= 240 or len(rows) > 1000:
        return False
    if any([begin < first or many % beats for beats, _, first, _ in shares]):
        return False
    for row in rows:
        if row.__class__ is not tuple or [item.__class__ for item in row] != [int, int, int]:
            return False
        if not begin <= row[0] < begin + many or not 0 <= row[1] < len(shares) or row[2] < 0:
            return False
    return rows == sorted(rows)


def plainly_shows(shares, mouth, thing):
    """What shows_round says: so many rounds are written out, drawing by drawing, that all rows meet that ever do."""
    if not is_written(shares, thing):
        return False
    begin, many, rows = thing
    widest = max([wide for _, _, _, wide in shares])
    turns = 4 + widest // many
    drawn = {}
    often = {}
    for beat, share, number in rows:
        beats, pieces, first, wide = shares[share]
        for turn in range(turns):
            piece = (share, number + turn * many // beats * pieces)
            at = beat + turn * many
            ask = first + piece[1] * beats // pieces
            if piece in drawn or not ask <= at <= ask + wide:
                return False
            drawn[piece] = at
            often[at] = often.get(at, 0) + 1
    # A piece that is asked later may be drawn behind the rounds that are written out.
    end = begin + turns * many - widest
    asked = [(share, number) for ask, _, share, number in asked_up_to(shares, end) if ask >= begin]
    return max(often.values(), default=0) <= mouth and all([piece in drawn for piece in asked])


def turned(shares, thing, by):
    """The same drawings, told as a round that begins so many beats later, not more than many."""
    begin, many, rows = thing
    later = []
    for beat, share, number in rows:
        beats, pieces, _, _ = shares[share]
        is_past = beat < begin + by
        later.append((beat + many, share, number + many // beats * pieces) if is_past else (beat, share, number))
    return (begin + by, many, sorted(later))


class RoundOfTest(unittest.TestCase):
    def test_few(self):
        self.assertEqual(round_of([(1, 1, 0, 0)]), (0, 1, [(0, 0, 0)]))
        self.assertIsNone(round_of([(1, 2, 0, 0)]))
        self.assertIsNone(round_of([(2, 1, 0, 0), (2, 1, 40, 0)]))

    def test_shows_what_is_told(self):
        words = set()
        for shares, mouth in some_shares(1000, 81):
            told = round_of(shares, mouth)
            word = for_ever(shares, mouth)[0]
            self.assertEqual(told is None, word == "burnt", shares)
            words.add(word)
            if told is not None:
                self.assertIs(shows_round(shares, mouth, told), True, (shares, mouth, told))
        self.assertEqual(words, {"burnt", "kept"})

    def test_told_rounds_written_out(self):
        for shares, mouth in some_shares(150, 82):
            told = round_of(shares, mouth)
            if told is not None:
                self.assertTrue(plainly_shows(shares, mouth, told), (shares, mouth, told))

    def test_told_rounds_turned(self):
        chance = random.Random(84)
        for shares, mouth in some_shares(150, 84):
            told = round_of(shares, mouth)
            if told is not None:
                later = turned(shares, told, chance.randint(1, told[1]))
                self.assertIs(shows_round(shares, mouth, later), True, (shares, mouth, later))
                self.assertTrue(plainly_shows(shares, mouth, later), (shares, mouth, later))

    def test_bounds(self):
        for shares, mouth in (([(6, 4, 40, 20)] * 6, 4), ([(beats, 1, 40, 20) for beats in range(1, 7)], 3),
                              ([(beats, beats, 0, 20) for beats in range(3, 7)], 4), ([(6, 1, 0, 0)], 1),
                              ([(5, 4, 40, 20), (4, 3, 3, 20), (3, 2, 0, 20), (6, 5, 9, 20), (6, 5, 0, 20)], 4)):
            told = round_of(shares, mouth)
            self.assertIs(shows_round(shares, mouth, told), True, shares)
            self.assertTrue(plainly_shows(shares, mouth, told), shares)

    def test_lists_tuples_and_names(self):
        told = round_of(SHARES)
        self.assertEqual(round_of(mouth=1, shares=tuple(SHARES)), told)
        self.assertEqual(round_of([list(share) for share in SHARES]), told)
        self.assertIs(shows_round(thing=round_of(SHARES, mouth=2), mouth=2, shares=tuple(SHARES)), True)
        self.assertIs(shows_round([list(share) for share in SHARES], 1, told), True)

    def test_nothing_is_changed_and_all_is_new(self):
        shares = [list(share) for share in SHARES]
        kept = copy.deepcopy(shares)
        told = round_of(shares)
        again = copy.deepcopy(told)
        self.assertIs(shows_round(shares, 1, told), True)
        self.assertEqual(told, again)
        told[2].clear()
        self.assertEqual(round_of(shares), again)
        self.assertEqual(shares, kept)


class ShowsRoundTest(unittest.TestCase):
    def test_takes_any_right_round(self):
        for thing in (TRUE_ROUND, (4, 4, [(4, 0, 2), (5, 1, 1), (6, 0, 3)]), (0, 4, [(0, 0, 0), (2, 0, 1), (3, 1, 0)]),
                      (2, 4, [(2, 0, 1), (3, 1, 0), (4, 0, 2)]), (3, 4, [(3, 1, 0), (4, 0, 2), (6, 0, 3)]),
                      (0, 8, [(0, 0, 0), (1, 1, 0), (2, 0, 1), (4, 0, 2), (6, 0, 3), (7, 1, 1)])):
            self.assertIs(shows_round(SHARES, 1, thing), True, thing)
            self.assertTrue(plainly_shows(SHARES, 1, thing))

    def test_a_piece_asked_ahead_of_begin(self):
        # Asked at 0, drawn at 3 and then each four beats later.
        self.assertIs(shows_round([(4, 1, 0, 3)], 1, (3, 4, [(3, 0, 0)])), True)
        self.assertIs(shows_round([(4, 1, 0, 3)], 1, (3, 4, [(6, 0, 0)])), False)
        self.assertIs(shows_round([(4, 1, 0, 3)], 1, (3, 4, [(6, 0, 1)])), True)
        # The piece asked at 4 must stand, not the one behind it.
        self.assertIs(shows_round([(1, 1, 0, 9)], 1, (4, 1, [(4, 0, 5)])), False)
        self.assertIs(shows_round([(1, 1, 0, 9)], 1, (4, 1, [(4, 0, 0)])), True)

    def test_rows_that_meet_late(self):
        # Piece 4 is drawn at 4, and again at 8 as the one that is four behind piece 0.
        for thing in ((4, 1, [(4, 0, 0), (4, 0, 4)]), (9, 1, [(9, 0, 0), (9, 0, 9)]), (20, 1, [(20, 0, 11), (20, 0, 12)])):
            self.assertIs(shows_round([(1, 1, 0, 9)], 2, thing), False, thing)
            self.assertFalse(plainly_shows([(1, 1, 0, 9)], 2, thing))
        # In the place of the second plan's piece, too: as many rows as are asked, but one of them twice.
        self.assertIs(shows_round([(1, 2, 0, 9)], 2, (4, 1, [(4, 0, 2), (4, 0, 8)])), False)
        self.assertIs(shows_round([(1, 2, 0, 9)], 2, (4, 1, [(4, 0, 2), (4, 0, 9)])), True)

    def test_rows_of_other_pieces_and_beats(self):
        chance = random.Random(85)
        seen = set()
        for shares, mouth in some_shares(600, 85):
            told = round_of(shares, mouth)
            if told is None or told[1] > 12:
                continue
            begin, many, rows = told
            for _ in range(20):
                others = list(rows)
                for _ in range(chance.randint(1, 3)):
                    beat, share, number = chance.choice(others)
                    others.remove((beat, share, number))
                    others.append((begin + chance.randrange(many), share, max(0, number + chance.randint(-9, 3))))
                thing = (begin, many, sorted(others))
                said = shows_round(shares, mouth, thing)
                self.assertIs(said, plainly_shows(shares, mouth, thing), (shares, mouth, thing))
                seen.add((said, thing[2] == rows))
        self.assertEqual(seen, {(True, True), (True, False), (False, False)})

    def test_one_place_otherwise(self):
        for thing in ((0, 4, [(0, 0, 0), (1, 1, 0)]), (0, 4, [(0, 0, 0), (1, 1, 0), (2, 0, 1), (2, 0, 1)]),
                      (0, 4, [(0, 0, 0), (0, 0, 0), (1, 1, 0), (2, 0, 1)]), (0, 4, [(0, 0, 0), (2, 0, 1), (1, 1, 0)]),
                      (0, 4, [(0, 0, 0), (1, 1, 0), (2, 0, 1), (3, 1, 0)]), (0, 4, [(1, 1, 0), (2, 0, 1), (4, 0, 2)]),
                      (1, 4, [(0, 0, 0), (1, 1, 0), (2, 0, 1)]), (0, 4, [(0, 0, 0), (0, 1, 0), (2, 0, 1)]),
                      (0, 4, [(0, 0, 0), (1, 2, 0), (2, 0, 1)]), (0, 4, [(0, 0, 0), (1, -1, 0), (2, 0, 1)]),
                      (0, 4, [(0, 0, 0), (1, 1, 0), (2, 0, 1), (3, -1, 0)]),
                      (0, 4, [(0, 0, 0), (1, 1, -1), (2, 0, 1)]), (0, 4, [(0, 0, 0), (1, 1, 0), (2, 0, 2)]),
                      (0, 2, [(0, 0, 0), (1, 1, 0)]), (0, 6, TRUE_ROUND[2]), (0, 0, []), (0, -4, []), (0, 4, []),
                      (0, 4, tuple(TRUE_ROUND[2])), [0, 4, TRUE_ROUND[2]], (0, 4, [[0, 0, 0], [1, 1, 0], [2, 0, 1]]),
                      (False, 4, TRUE_ROUND[2]), (0, 4, [(0, 0, False), (1, 1, 0), (2, 0, 1)]),
                      (0, 4, [(0, 0, 0), (True, 1, 0), (2, 0, 1)]), (0, 4, [(0, 0, 0), (1, True, 0), (2, 0, 1)]),
                      (0, 4), (0, 4, TRUE_ROUND[2], 0), None, "round", "abc", 7, True, (), [], (None, 4, TRUE_ROUND[2]),
                      (0, None, TRUE_ROUND[2]), (0, 4, None), (0, 4, "abc"), (0, 4, [None]), (0, 4, ["abc"]),
                      (0, 4, [(0, 0, 0), (1, 1, 0), (2, 0, "1")]), (0, 4, [(0, 0, 0), (1, 1, 0), (2, 0)]),
                      (0, 4, [(0, 0, 0), (1, 1, 0), (2, 0, (1,))]), [[[[[[]]]]]], ((((((),),),),),)):
            self.assertIs(shows_round(SHARES, 1, thing), False, thing)

    def test_begin_ahead_of_a_first(self):
        self.assertIs(shows_round([(1, 1, 5, 0)], 1, (4, 1, [(4, 0, 0)])), False)
        self.assertIs(shows_round([(2, 1, 5, 3)], 1, (4, 2, [(5, 0, 0)])), False)
        self.assertIs(shows_round([(2, 1, 5, 3)], 1, (5, 2, [(5, 0, 0)])), True)
        self.assertIs(shows_round([(1, 1, 0, 0), (2, 1, 5, 3)], 2, (4, 2, [(4, 0, 4), (5, 0, 5), (5, 1, 0)])), False)

    def test_no_piece_comes_ahead_of_the_first(self):
        self.assertIs(shows_round([(1, 1, 0, 3)], 1, (0, 1, [(0, 0, 0)])), True)
        self.assertIs(shows_round([(1, 1, 0, 3)], 1, (0, 1, [(0, 0, -1)])), False)

    def test_many_is_a_multiple_of_each_plan(self):
        self.assertIs(shows_round([(2, 2, 0, 0)], 1, (0, 1, [(0, 0, 0)])), False)
        self.assertIs(shows_round([(2, 2, 0, 0)], 1, (0, 2, [(0, 0, 0), (1, 0, 1)])), True)
        self.assertIs(shows_round([(2, 2, 0, 0)], 1, (0, 3, [(0, 0, 0), (1, 0, 1), (2, 0, 2)])), False)

    def test_mouth_counts(self):
        shares = [(2, 3, 0, 1)]
        thing = (0, 2, [(0, 0, 0), (0, 0, 1), (1, 0, 2)])
        self.assertIs(shows_round(shares, 2, thing), True)
        self.assertIs(shows_round(shares, 1, thing), False)
        self.assertIs(shows_round(shares, 2, (0, 2, [(0, 0, 0), (1, 0, 1), (1, 0, 2)])), True)

    def test_too_many_beats_and_rows(self):
        def rows(many):
            return [(beat, 0, beat) for beat in range(many)]
        self.assertIs(shows_round([(1, 1, 0, 0)], 1, (0, 240, rows(240))), True)
        self.assertIs(shows_round([(1, 1, 0, 0)], 1, (0, 241, rows(241))), False)
        # So many rows are reached at a mouth beyond the bounds alone.
        def crowded(many, each):
            return [(beat, 0, beat * each + at) for beat in range(many) for at in range(each)]
        self.assertIs(shows_round([(1, 5, 0, 0)], 5, (0, 200, crowded(200, 5))), True)
        self.assertIs(shows_round([(1, 7, 0, 0)], 7, (0, 142, crowded(142, 7))), True)
        self.assertIs(shows_round([(1, 7, 0, 0)], 7, (0, 143, crowded(143, 7))), False)

    def test_far_out(self):
        far = 10 ** 12
        self.assertIs(shows_round([(1, 1, 0, 3)], 1, (far, 1, [(far, 0, far - 3)])), True)
        self.assertIs(shows_round([(1, 1, 0, 3)], 1, (far, 1, [(far, 0, far - 4)])), False)
        self.assertIs(shows_round([(1, 1, 0, 3)], 1, (far, 1, [(far, 0, far + 1)])), False)

    def test_things_otherwise_by_one_step(self):
        seen = set()
        for shares, mouth in some_shares(400, 83):
            told = round_of(shares, mouth)
            if told is None or len(told[2]) > 8:
                continue
            for other in unlike_by_one(told):
                said = shows_round(shares, mouth, other)
                if not isinstance(other, tuple) or other[:1] != (10 ** 5000,):
                    self.assertIs(said, plainly_shows(shares, mouth, other), (shares, mouth, other))
                seen.add(said)
        self.assertEqual(seen, {True, False})


if __name__ == "__main__":
    unittest.main()
