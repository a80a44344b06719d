"""Papers of turns [12]; of [1] (d)."""

import copy
import unittest

from hotpass.turnpapers import burnt_paper, shows_turns
from hotpass.turns import turns
from tests.walks import some_wishes, unlike_by_one, walk_turns

FAR = 10 ** 12


def burn_by(wishes, mouth, stretches):
    """How many burn at least, counted beat by beat."""
    beats = [beat for first, behind in stretches for beat in range(first, behind)]
    within = [wish for wish in wishes if any([first <= wish[0] and wish[1] < behind for first, behind in stretches])]
    return len(within) - mouth * len(beats)


def is_paper(thing):
    ends = [0] + [beat for pair in thing for beat in pair]
    return (thing.__class__ is list and all([pair.__class__ is tuple for pair in thing])
            and ends == sorted(ends) and all([first < behind for first, behind in thing]))


def plainly_shows(wishes, mouth, told, thing):
    """What shows_turns says, of anything: looked at in the plainest way."""
    if told.__class__ is not list or len(told) != len(wishes):
        return False
    for (first, last), beat in zip(wishes, told):
        if beat is not None and (beat.__class__ is not int or not first <= beat <= last or told.count(beat) > mouth):
            return False
    if thing.__class__ is not list:
        return False
    for pair in thing:
        if pair.__class__ is not tuple or [item.__class__ for item in pair] != [int, int]:
            return False
    if not is_paper(thing) or sum([behind - first for first, behind in thing]) > 1000:
        return False
    return burn_by(wishes, mouth, thing) == told.count(None)


class BurntPaperTest(unittest.TestCase):
    def test_few(self):
        self.assertEqual(burnt_paper([]), [])
        self.assertEqual(burnt_paper([(0, 3), (0, 3)]), [])
        # Where but one stretch will do, it is told.
        self.assertEqual(burnt_paper([(3, 3)] * 3, 2), [(3, 4)])

    def test_as_many_burn_as_by_turns(self):
        burnt = set()
        for wishes in some_wishes(1500, 61):
            for mouth in (1, 2, 3, 4):
                paper = burnt_paper(wishes, mouth)
                self.assertTrue(is_paper(paper), paper)
                told = walk_turns(wishes, mouth)
                self.assertEqual(burn_by(wishes, mouth, paper), told.count(None), (wishes, mouth, paper))
                self.assertIs(shows_turns(wishes, mouth, turns(wishes, mouth), paper), True)
                burnt.add(min(2, len(paper)))
        self.assertEqual(burnt, {0, 1, 2})

    def test_far_and_many(self):
        crowd = [(FAR - 20 + number % 7, FAR - 20 + number % 7 + number % 13) for number in range(200)]
        for wishes in (crowd, [(FAR, FAR)] * 200, [(0, FAR)] * 200, [(0, FAR)] * 100 + [(FAR, FAR)] * 100,
                       [(0, 0)] * 100 + [(FAR, FAR)] * 100, [(number, number) for number in range(200)]):
            for mouth in (1, 4):
                told, paper = turns(wishes, mouth), burnt_paper(wishes, mouth)
                self.assertTrue(is_paper(paper))
                self.assertEqual(burn_by(wishes, mouth, paper), told.count(None))
                self.assertIs(shows_turns(wishes, mouth, told, paper), True)

    def test_lists_tuples_and_names(self):
        wishes = [(0, 0), (0, 0), (0, 1), (5, 5)]
        told = burnt_paper(wishes)
        self.assertEqual(burnt_paper(mouth=1, wishes=tuple(wishes)), told)
        self.assertEqual(burnt_paper([list(wish) for wish in wishes]), told)
        self.assertEqual(burnt_paper(wishes, mouth=2), [])

    def test_nothing_is_changed_and_all_is_new(self):
        wishes = [[0, 0], [0, 0], [7, 7], [7, 7]]
        kept = copy.deepcopy(wishes)
        told = burnt_paper(wishes)
        again = copy.deepcopy(told)
        told.clear()
        self.assertEqual(wishes, kept)
        self.assertEqual(burnt_paper(wishes), again)


class ShowsTurnsTest(unittest.TestCase):
    def test_other_turns_and_other_papers_show_too(self):
        wishes = [(0, 5), (0, 5), (9, 9), (9, 9)]
        for told in ([0, 1, 9, None], [5, 3, None, 9], [1, 0, 9, None]):
            for thing in ([(9, 10)],):
                self.assertIs(shows_turns(wishes, 1, told, thing), True)
        # A stretch without slack beside it shows as well, in one or in two.
        wishes = [(0, 0), (1, 1), (2, 2), (2, 2)]
        for thing in ([(2, 3)], [(1, 3)], [(0, 1), (2, 3)], [(0, 1), (1, 2), (2, 3)], [(0, 3)]):
            self.assertIs(shows_turns(wishes, 1, [0, 1, None, 2], thing), True)
        self.assertIs(shows_turns(wishes, 1, [0, 1, None, 2], [(2, 4)]), False)

    def test_no_wishes(self):
        self.assertIs(shows_turns([], 1, [], []), True)
        self.assertIs(shows_turns([], 1, [None], []), False)
        self.assertIs(shows_turns([], 1, (), []), False)
        self.assertIs(shows_turns([], 1, [], ()), False)
        self.assertIs(shows_turns([], 1, [], [(0, 1)]), False)

    def test_too_many_burnt(self):
        self.assertIs(shows_turns([(0, 3), (0, 3)], 1, [0, None], []), False)
        self.assertIs(shows_turns([(0, 0), (0, 0)], 1, [None, None], [(0, 1)]), False)

    def test_one_place_otherwise(self):
        wishes = [(0, 2), (1, 1), (1, 1), (4, 5), (4, 4), (4, 5), (9, 9)]
        told, thing = [0, 1, None, 5, 4, None, 9], [(1, 2), (4, 6)]
        self.assertIs(shows_turns(wishes, 1, told, thing), True)
        for other in ([3, 1, None, 5, 4, None, 9], [1, 1, None, 5, 4, None, 9], [0, 1, None, 5, 4, None],
                      [0, 1, None, 5, 4, None, 9, None], [False, 1, None, 5, 4, None, 9],
                      [0, True, None, 5, 4, None, 9], [0, 1, None, 5, 4, "", 9], [0, 1, None, 5, 4, [], 9],
                      (0, 1, None, 5, 4, None, 9), None, "told", 7, True, [[[[[[]]]]]], [0, 1, None, 4, 4, None, 9]):
            self.assertIs(shows_turns(wishes, 1, other, thing), False, other)
        for other in ([(1, 2)], [(4, 6), (1, 2)], [(1, 5), (4, 6)], [(1, 2), (1, 2), (4, 6)], [(1, 1), (4, 6)],
                      [(1, 2), (3, 3), (4, 6)], ((1, 2), (4, 6)), [[1, 2], [4, 6]], [(1, 2), [4, 6]],
                      [(True, 2), (4, 6)], [(1, 2), (4, 6, 6)], [(1, 2), (4,)], [(2, 1), (4, 6)], [(1, 2), (4, None)],
                      [(1, 2), (4, "6")], [(1, 2), (4, 6), None], [(-1, 0), (1, 2), (4, 6)], None, "thing", 2, True,
                      [[[[[[]]]]]], [(1, 2), ((4, 6),)], [(1, 2), ()], ["ab"], [(1, 2), (4, 10 ** 5000)]):
            self.assertIs(shows_turns(wishes, 1, told, other), False, other)

    def test_nought_and_one_aren_t_false_and_true(self):
        self.assertIs(shows_turns([(0, 0), (0, 0)], 1, [0, None], [(0, 1)]), True)
        for thing in ([(False, 1)], [(0, True)], [(False, True)]):
            self.assertIs(shows_turns([(0, 0), (0, 0)], 1, [0, None], thing), False)
        self.assertIs(shows_turns([(0, 0), (0, 0)], 1, [False, None], [(0, 1)]), False)

    def test_mouth_counts(self):
        wishes = [(0, 1)] * 6
        self.assertIs(shows_turns(wishes, 2, [0, 0, 1, 1, None, None], [(0, 2)]), True)
        self.assertIs(shows_turns(wishes, 2, [0, 0, 0, 1, None, None], [(0, 2)]), False)
        self.assertIs(shows_turns(wishes, 3, [0, 0, 1, 1, None, None], [(0, 2)]), False)
        self.assertIs(shows_turns(wishes, 3, [0, 0, 0, 1, 1, 1], []), True)

    def test_things_otherwise_by_one_step(self):
        seen = set()
        for wishes in some_wishes(60, 62, most=6):
            told, thing = turns(wishes), burnt_paper(wishes)
            for other in unlike_by_one(told):
                said = shows_turns(wishes, 1, other, thing)
                self.assertIs(said, plainly_shows(wishes, 1, other, thing), (wishes, other, thing))
                seen.add(said)
            for other in unlike_by_one(thing):
                said = shows_turns(wishes, 1, told, other)
                self.assertIs(said, plainly_shows(wishes, 1, told, other), (wishes, told, other))
                seen.add(said)
        self.assertEqual(seen, {True, False})

    def test_arguments(self):
        wishes, told, thing = [[0, 0], [0, 0]], [0, None], [(0, 1)]
        self.assertIs(shows_turns(thing=thing, told=told, mouth=1, wishes=tuple(wishes)), True)
        self.assertEqual((wishes, told, thing), ([[0, 0], [0, 0]], [0, None], [(0, 1)]))


if __name__ == "__main__":
    unittest.main()
