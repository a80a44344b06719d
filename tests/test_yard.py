"""A yard, by nights made by hand [15] [16] [17]; of [1] (a), (b), (g)."""

import unittest

from hotpass.errors import Begun, KnownGang, NoGang, NoKind, NoPiece, TooMany
from hotpass.gangs import Gang
from hotpass.metals import Metal
from hotpass.yard import Yard

EVER_HOT = Metal(100, 0, [(1, 0)])
ANN = Gang("ann", (2, 1, 1, 4))
BOB = Gang("bob", (1, 1, 1, 1), (4, 4, 4, 4))
FAR = 10 ** 12


def hot_for(beats):
    return Metal(10 + beats, 10, [(1, 1)])


def yard_of(gangs, metal=EVER_HOT, soak=0, burn=None, mouth=1, rounds=0):
    yard = Yard(metal, soak, burn, mouth, rounds)
    for gang in gangs:
        yard.joins(gang)
    return yard


def all_of(yard):
    """All that a yard tells without going on."""
    names = yard.names()
    return (yard.now(), names, len(yard), yard.counts(), [yard.where(piece) for piece in range(len(yard))],
            [yard.takes_of(name) for name in names],
            [yard.holding(name, kind) for name in names for kind in range(4)])


class HappeningsTest(unittest.TestCase):
    def test_one_piece(self):
        yard = yard_of([ANN], soak=3)
        yard.put("ann")
        self.assertEqual(yard.where(0), ("fire", 3, None))
        self.assertEqual(yard.go(20), [(3, "drawn", 0), (5, "passed", 0, 1), (6, "passed", 0, 2),
                                       (7, "passed", 0, 3), (11, "closed", 0, 0)])
        self.assertEqual(yard.now(), 20)
        self.assertEqual(yard.where(0), ("hole", "ann", 0))

    def test_where_it_is_on_its_way(self):
        yard = yard_of([ANN], soak=1, burn=2)
        yard.put("ann")
        seen = []
        for _ in range(11):
            seen.append(yard.where(0))
            yard.beat()
        self.assertEqual(seen, [("fire", 1, 3)] * 2 + [("hand", "ann", 0, 1)] * 2 + [("hand", "ann", 1, 3)]
                         + [("hand", "ann", 2, 4)] + [("hand", "ann", 3, 5)] * 4 + [("hole", "ann", 0)])

    def test_pieces_wait_for_hands(self):
        yard = yard_of([ANN])
        yard.put("ann", 2)
        self.assertEqual(yard.go(99), [
            (0, "drawn", 0), (2, "passed", 0, 1), (2, "drawn", 1), (3, "passed", 0, 2), (4, "passed", 0, 3),
            (4, "passed", 1, 1), (5, "passed", 1, 2), (8, "closed", 0, 0), (8, "passed", 1, 3), (12, "closed", 1, 1)])

    def test_burnt_at_the_beat_behind_last(self):
        yard = yard_of([Gang("ann", (5, 1, 1, 1))], soak=2, burn=1)
        yard.put("ann", 3)
        self.assertEqual(yard.go(6), [(2, "drawn", 0), (4, "burnt", 1), (4, "burnt", 2)])
        self.assertEqual([yard.where(1), yard.where(2)], [("heap", "burnt")] * 2)

    def test_drawn_at_last_too(self):
        yard = yard_of([ANN], soak=0, burn=3)
        yard.rest("ann", 3)
        yard.put("ann", 2)
        self.assertEqual(yard.go(5), [(3, "drawn", 0), (4, "burnt", 1)])

    def test_cold_goes_on_the_heap(self):
        yard = yard_of([Gang("ann", (2, 1, 2, 4))], hot_for(4))
        yard.put("ann")
        self.assertEqual(yard.go(50), [(0, "drawn", 0), (2, "passed", 0, 1), (3, "passed", 0, 2), (5, "cold", 0)])
        self.assertEqual(yard.where(0), ("heap", "cold"))

    def test_with_the_closer_just_in_time(self):
        yard = yard_of([Gang("ann", (2, 1, 2, 400))], hot_for(5))
        yard.put("ann")
        self.assertEqual(yard.go(500)[-2:], [(5, "passed", 0, 3), (405, "closed", 0, 0)])

    def test_cold_with_each_kind(self):
        for life, kind in ((0, 0), (1, 0), (2, 1), (3, 2), (4, 2)):
            yard = yard_of([Gang("ann", (2, 1, 2, 4))], hot_for(life))
            yard.put("ann")
            yard.go(life + 1)
            self.assertEqual(yard.where(0)[:3], ("hand", "ann", kind))
            self.assertEqual(yard.beat(), [(life + 1, "cold", 0)])

    def test_put_in_again_rounds_times(self):
        yard = yard_of([Gang("ann", (9, 1, 1, 1))], hot_for(2), soak=0, rounds=2)
        yard.put("ann")
        # Where soak is 0 it is drawn in the very beat in which it's cold.
        self.assertEqual(yard.go(50), [(0, "drawn", 0), (3, "cold", 0), (3, "drawn", 0), (6, "cold", 0),
                                       (6, "drawn", 0), (9, "cold", 0)])
        self.assertEqual(yard.where(0), ("heap", "cold"))

    def test_put_in_again_soaks_and_burns_anew(self):
        yard = yard_of([Gang("ann", (9, 1, 1, 1))], hot_for(2), soak=5, burn=1, rounds=1)
        yard.put("ann")
        self.assertEqual(yard.go(9), [(5, "drawn", 0), (8, "cold", 0)])
        self.assertEqual(yard.where(0), ("fire", 13, 14))
        yard.rest("ann", 100)
        self.assertEqual(yard.go(50), [(15, "burnt", 0)])

    def test_nine_rounds(self):
        yard = yard_of([Gang("ann", (9, 1, 1, 1))], hot_for(0), rounds=9)
        yard.put("ann")
        told = yard.go(99)
        self.assertEqual(told.count((10, "cold", 0)), 1)
        self.assertEqual([word for _, word, _ in told], ["drawn", "cold"] * 10)

    def test_missed_throws_are_numbered_as_they_are_made(self):
        yard = yard_of([BOB], mouth=4)
        yard.miss("bob", 1)
        yard.miss("bob", 2)
        yard.put("bob", 4)
        self.assertEqual(yard.go(2)[4:], [(1, "passed", number, 1) for number in range(4)])
        self.assertEqual(yard.go(2), [(2, "passed", 0, 2), (2, "missed", 1), (2, "missed", 2), (2, "passed", 3, 2),
                                      (3, "passed", 0, 3), (3, "passed", 3, 3)])
        self.assertEqual(yard.where(1), ("heap", "missed"))
        # A missed one fills no hole.
        self.assertEqual(yard.go(9), [(4, "closed", 0, 0), (4, "closed", 3, 1)])

    def test_a_missed_throw_waits_for_a_holder_too(self):
        yard = yard_of([Gang("ann", (1, 1, 9, 1))])
        yard.miss("ann", 1)
        yard.put("ann", 2)
        told = yard.go(99)
        self.assertIn((2, "passed", 0, 2), told)
        self.assertIn((11, "missed", 1), told)

    def test_each_sort_in_one_beat(self):
        gangs = [Gang("cy", (9, 1, 1, 1)), Gang("ann", (1, 1, 1, 3)), Gang("di", (1, 1, 1, 1)),
                 Gang("bob", (3, 1, 1, 1))]
        yard = yard_of(gangs, hot_for(5), burn=5, mouth=4)
        yard.put("cy", 2)
        yard.put("ann", 1)
        self.assertEqual(yard.go(3), [(0, "drawn", 0), (0, "drawn", 2), (1, "passed", 2, 1), (2, "passed", 2, 2)])
        yard.put("bob", 2)
        self.assertEqual(yard.beat(), [(3, "passed", 2, 3), (3, "drawn", 3)])
        yard.put("di")
        yard.miss("di", 0)
        self.assertEqual(yard.go(2), [(4, "drawn", 5), (5, "passed", 5, 1)])
        self.assertEqual(yard.beat(), [(6, "closed", 2, 0), (6, "cold", 0), (6, "burnt", 1), (6, "missed", 5),
                                       (6, "passed", 3, 1), (6, "drawn", 4)])

    def test_kinds_three_two_one_and_gang_by_gang(self):
        yard = yard_of([Gang("ann", (1, 1, 1, 1)), Gang("bob", (1, 1, 1, 1))], mouth=4)
        yard.put("bob", 3)
        yard.put("ann", 3)
        yard.go(3)
        self.assertEqual(yard.beat(), [(3, "passed", 3, 3), (3, "passed", 4, 2), (3, "passed", 5, 1),
                                       (3, "passed", 0, 3), (3, "passed", 1, 2), (3, "passed", 2, 1)])
        self.assertEqual(yard.beat()[:2], [(4, "closed", 0, 0), (4, "closed", 3, 0)])

    def test_closed_by_their_numbers_whatever_their_gangs(self):
        yard = yard_of([ANN, Gang("bob", (2, 1, 1, 4))], mouth=2)
        yard.put("bob")
        yard.put("ann")
        yard.go(8)
        self.assertEqual(yard.beat(), [(8, "closed", 0, 0), (8, "closed", 1, 0)])

    def test_drawn_by_the_least_last(self):
        yard = yard_of([BOB, Gang("cy", (1, 1, 1, 1), (4, 4, 4, 4))], soak=1, burn=9)
        yard.rest("cy", 3)
        yard.put("cy", 2)
        yard.beat()
        yard.put("bob", 2)
        # cy's pieces have the lesser last, but cy rests.
        self.assertEqual([row for row in yard.go(5) if row[1] == "drawn"],
                         [(2, "drawn", 2), (3, "drawn", 0), (4, "drawn", 1), (5, "drawn", 3)])

    def test_drawn_by_the_least_number_where_none_burns(self):
        yard = yard_of([BOB], hot_for(1), soak=0, rounds=1)
        yard.put("bob", 3)
        # Piece 0 was put in again at 2, piece 2 lies there from 0 on: the numbers alone count.
        self.assertEqual([row for row in yard.go(4) if row[1] != "passed"],
                         [(0, "drawn", 0), (1, "drawn", 1), (2, "cold", 0), (2, "drawn", 0), (3, "cold", 1),
                          (3, "drawn", 1)])

    def test_mouth(self):
        for mouth in (1, 2, 3, 4):
            yard = yard_of([BOB, Gang("cy", (9, 1, 1, 1), (4, 1, 1, 1))], mouth=mouth)
            yard.put("bob", 2)
            yard.put("cy", 4)
            self.assertEqual(yard.beat(), [(0, "drawn", number) for number in range(mouth)])

    def test_a_heater_must_be_free(self):
        yard = yard_of([ANN, Gang("cy", (9, 1, 1, 1))], mouth=4)
        yard.put("ann", 3)
        yard.put("cy", 3)
        self.assertEqual(yard.beat(), [(0, "drawn", 0), (0, "drawn", 3)])

    def test_longest_there_goes_first_of_like_ones_the_least_number(self):
        # Piece 1 has the lesser last where 0 was put in again: it is drawn ahead, but passes behind 0 in a like beat.
        yard = yard_of([Gang("ann", (2, 3, 1, 1), (2, 1, 1, 1))], hot_for(9), soak=0, burn=50, mouth=2, rounds=1)
        yard.put("ann", 1)
        yard.manned("ann", 1, 0)
        yard.go(5)
        yard.put("ann", 1)
        yard.manned("ann", 0, 1)
        self.assertEqual(yard.go(5), [])
        yard.manned("ann", 0, 2)
        self.assertEqual(yard.go(1), [(10, "cold", 0), (10, "drawn", 1), (10, "drawn", 0)])
        yard.manned("ann", 1, 1)
        self.assertEqual(yard.go(3), [(12, "passed", 0, 1)])

    def test_none_passes_an_earlier_one(self):
        # The second is over with its take first, and waits.
        yard = yard_of([Gang("ann", (9, 1, 1, 1), (2, 2, 2, 2))])
        yard.put("ann")
        yard.beat()
        yard.paced("ann", 0, 1)
        yard.put("ann")
        told = yard.go(99)
        self.assertEqual(told[:3], [(1, "drawn", 1), (9, "passed", 0, 1), (9, "passed", 1, 1)])


class DeedsTest(unittest.TestCase):
    def test_deeds_tell_nothing(self):
        yard = Yard(EVER_HOT, 0)
        for told in (yard.joins(ANN), yard.put("ann"), yard.slow("ann", 0, 5), yard.miss("ann", 3),
                     yard.rest("ann", 0), yard.paced("ann", 0, 1), yard.manned("ann", 0, 4)):
            self.assertIsNone(told)

    def test_numbers_go_on_over_all_gangs(self):
        yard = yard_of([ANN, BOB], soak=9)
        yard.put("bob", 2)
        yard.put("ann")
        yard.put("bob")
        yard.go(9)
        self.assertEqual([row[2] for row in yard.beat()], [0])
        self.assertEqual(len(yard), 4)
        yard.go(99)
        self.assertEqual([yard.where(piece)[1] for piece in range(4)], ["bob", "bob", "ann", "bob"])

    def test_what_is_put_now_may_be_drawn_now(self):
        yard = yard_of([ANN])
        yard.go(7)
        yard.put("ann")
        self.assertEqual(yard.beat(), [(7, "drawn", 0)])

    def test_slow(self):
        yard = yard_of([BOB], mouth=2)
        yard.slow("bob", 0, 7)
        yard.slow("bob", 1, 90)
        yard.slow("bob", 1, 2)
        yard.slow("bob", 5, 9)
        yard.put("bob", 2)
        self.assertEqual(yard.go(99)[-2:], [(6, "closed", 1, 1), (11, "closed", 0, 0)])

    def test_slow_told_back(self):
        yard = yard_of([ANN])
        yard.slow("ann", 0, 10 ** 6)
        yard.slow("ann", 0, 0)
        yard.put("ann")
        self.assertEqual(yard.go(99)[-1], (8, "closed", 0, 0))

    def test_slow_adds_to_the_take_as_it_is_when_closing_begins(self):
        yard = yard_of([ANN])
        yard.slow("ann", 0, 3)
        yard.put("ann")
        yard.go(4)
        yard.paced("ann", 3, 10)
        yard.beat()
        yard.paced("ann", 3, 1)
        self.assertEqual(yard.go(99), [(17, "closed", 0, 0)])

    def test_begun(self):
        yard = yard_of([ANN])
        yard.put("ann", 2)
        yard.go(3)
        yard.miss("ann", 0)
        yard.go(1)
        yard.slow("ann", 0, 5)
        with self.assertRaises(Begun) as caught:
            yard.miss("ann", 0)
        self.assertEqual(caught.exception.what, 0)
        yard.miss("ann", 1)
        yard = yard_of([ANN])
        yard.put("ann", 2)
        yard.go(4)
        yard.slow("ann", 0, 5)
        yard.beat()
        with self.assertRaises(Begun) as caught:
            yard.slow("ann", 0, 6)
        self.assertEqual(caught.exception.what, 0)
        yard.slow("ann", 1, 6)
        self.assertEqual([row for row in yard.go(99) if row[1] == "closed"],
                         [(13, "closed", 0, 0), (23, "closed", 1, 1)])

    def test_begun_stays_so_when_closed(self):
        yard = yard_of([ANN])
        yard.put("ann")
        yard.go(99)
        self.assertRaises(Begun, yard.slow, "ann", 0, 1)
        self.assertRaises(Begun, yard.miss, "ann", 0)

    def test_a_throw_that_was_missed_is_over(self):
        yard = yard_of([ANN])
        yard.miss("ann", 0)
        yard.put("ann")
        yard.go(9)
        with self.assertRaises(Begun) as caught:
            yard.miss("ann", 0)
        self.assertEqual(caught.exception.what, 0)

    def test_rest(self):
        yard = yard_of([ANN, BOB], mouth=2)
        yard.put("ann")
        yard.put("bob")
        yard.beat()
        yard.rest("ann", 5)
        self.assertEqual([row for row in yard.go(9) if row[2] == 0],
                         [(6, "passed", 0, 1), (7, "passed", 0, 2), (8, "passed", 0, 3)])
        # A closing goes on while the gang rests.
        yard.rest("ann", 10 ** 9)
        self.assertEqual(yard.go(9), [(12, "closed", 0, 0)])

    def test_rest_told_anew(self):
        yard = yard_of([ANN])
        yard.rest("ann", 50)
        yard.put("ann")
        self.assertEqual(yard.go(5), [])
        yard.rest("ann", 2)
        self.assertEqual(yard.go(3), [(7, "drawn", 0)])
        yard.rest("ann", 50)
        yard.rest("ann", 0)
        self.assertEqual(yard.go(1), [])
        self.assertEqual(yard.where(0), ("hand", "ann", 0, 7))
        self.assertEqual(yard.go(1), [(9, "passed", 0, 1)])

    def test_cold_and_burnt_in_a_rest(self):
        yard = yard_of([ANN], hot_for(9), burn=4)
        yard.put("ann", 2)
        yard.beat()
        yard.rest("ann", 10 ** 9)
        self.assertEqual(yard.go(FAR), [(5, "burnt", 1), (10, "cold", 0)])

    def test_long_rest(self):
        yard = yard_of([ANN])
        yard.rest("ann", 10 ** 9)
        yard.put("ann")
        self.assertEqual(yard.leap(), [(10 ** 9, "drawn", 0)])
        yard.rest("ann", 10 ** 9)
        self.assertEqual(yard.go(FAR)[0], (2 * 10 ** 9 + 1, "passed", 0, 1))

    def test_paced(self):
        yard = yard_of([ANN])
        yard.put("ann", 2)
        yard.beat()
        yard.paced("ann", 0, 10)
        self.assertEqual(yard.takes_of("ann"), ((10, 1, 1, 4), (1, 1, 1, 1)))
        told = yard.go(99)
        self.assertIn((2, "passed", 0, 1), told)
        self.assertIn((12, "passed", 1, 1), told)
        self.assertEqual(ANN.takes, (2, 1, 1, 4))

    def test_manned(self):
        yard = yard_of([BOB], mouth=4)
        yard.put("bob", 4)
        yard.beat()
        yard.manned("bob", 0, 1)
        yard.manned("bob", 1, 0)
        self.assertEqual(yard.takes_of("bob"), ((1, 1, 1, 1), (1, 0, 4, 4)))
        # More are with the heaters than there are now: they stay, and none is drawn.
        yard.put("bob", 2)
        self.assertEqual(yard.go(5), [])
        self.assertEqual(yard.holding("bob", 0), [0, 1, 2, 3])
        yard.manned("bob", 1, 3)
        self.assertEqual(yard.beat(), [(6, "passed", 0, 1), (6, "passed", 1, 1), (6, "passed", 2, 1)])
        self.assertEqual(yard.beat(), [(7, "passed", 0, 2), (7, "passed", 1, 2), (7, "passed", 2, 2),
                                       (7, "passed", 3, 1), (7, "drawn", 4)])

    def test_nobody(self):
        yard = yard_of([ANN], hot_for(3), burn=7)
        for kind in range(4):
            yard.manned("ann", kind, 0)
        yard.put("ann")
        self.assertEqual(yard.go(99), [(8, "burnt", 0)])


class GoingTest(unittest.TestCase):
    def test_beat(self):
        yard = yard_of([ANN])
        self.assertEqual(yard.beat(), [])
        self.assertEqual(yard.now(), 1)

    def test_nothing_will_happen(self):
        yard = Yard(EVER_HOT, 0)
        self.assertEqual(yard.leap(), [])
        self.assertEqual(yard.now(), 0)
        self.assertEqual(yard.go(FAR), [])
        self.assertEqual(yard.now(), FAR)
        yard.joins(ANN)
        yard.manned("ann", 0, 0)
        yard.put("ann", 150)
        self.assertEqual(yard.leap(), [])
        self.assertEqual(yard.now(), FAR)
        self.assertEqual(yard.go(FAR), [])
        self.assertEqual(yard.now(), 2 * FAR)

    def test_go_nought(self):
        yard = yard_of([ANN])
        yard.put("ann")
        self.assertEqual(yard.go(0), [])
        self.assertEqual((yard.now(), yard.counts()), (0, (1, 0, 0, 0)))

    def test_leap_by_leap(self):
        yard = yard_of([ANN], soak=1000)
        yard.put("ann")
        self.assertEqual(yard.leap(), [(1000, "drawn", 0)])
        self.assertEqual(yard.now(), 1001)
        self.assertEqual(yard.leap(), [(1002, "passed", 0, 1)])
        self.assertEqual(yard.leap(), [(1003, "passed", 0, 2)])
        self.assertEqual(yard.leap(), [(1004, "passed", 0, 3)])
        self.assertEqual(yard.leap(), [(1008, "closed", 0, 0)])
        self.assertEqual(yard.leap(), [])
        self.assertEqual(yard.now(), 1009)

    def test_leap_stays_within_its_beat(self):
        yard = yard_of([ANN])
        yard.put("ann")
        self.assertEqual(yard.leap(), [(0, "drawn", 0)])
        self.assertEqual(yard.now(), 1)

    def test_greatest(self):
        most = 10 ** 6
        gang = Gang("ann", (most,) * 4, (4, 4, 4, 4))
        yard = yard_of([gang], hot_for(3 * most // 10), soak=most, burn=most, mouth=4)
        yard.put("ann")
        self.assertEqual(yard.leap(), [(most, "drawn", 0)])
        self.assertEqual(yard.leap(), [(most + 3 * most // 10 + 1, "cold", 0)])
        yard = yard_of([gang], soak=most, burn=most, mouth=4)
        yard.slow("ann", 0, most)
        yard.slow("ann", most, most)
        yard.miss("ann", most)
        yard.put("ann", 150)
        told = yard.go(FAR)
        self.assertEqual(told[:4], [(most, "drawn", number) for number in range(4)])
        self.assertIn((6 * most, "closed", 0, 0), told)
        self.assertEqual(yard.counts(), (0, 0, 8, 142))

    def test_six_gangs_and_150_pieces(self):
        gangs = [Gang(name, (1 + at, 2, 1, 3), (1, 2, 1, 1 + at % 4)) for at, name in enumerate("abcdef")]
        yard = yard_of(gangs, hot_for(40), soak=2, mouth=3, rounds=9)
        for name in "abcdef":
            yard.put(name, 25)
        told = yard.go(FAR)
        self.assertEqual(yard.counts(), (0, 0, 150, 0))
        self.assertEqual(len([row for row in told if row[1] == "closed"]), 150)


class TellingTest(unittest.TestCase):
    def test_new(self):
        yard = Yard(EVER_HOT, 0)
        self.assertEqual(all_of(yard), (0, [], 0, (0, 0, 0, 0), [], [], []))

    def test_names_in_order(self):
        yard = yard_of([BOB, ANN])
        self.assertEqual(yard.names(), ["bob", "ann"])

    def test_counts_and_holding(self):
        yard = yard_of([ANN, BOB], burn=2, mouth=4)
        yard.put("bob", 4)
        yard.put("ann", 5)
        yard.go(4)
        self.assertEqual(yard.counts(), (0, 5, 0, 4))
        self.assertEqual([yard.holding("ann", kind) for kind in range(4)], [[], [4], [], []])
        self.assertEqual(yard.holding("bob", 3), [0, 1, 2, 3])
        yard.go(99)
        self.assertEqual(yard.counts(), (0, 0, 5, 4))

    def test_kinds_of_what_is_told(self):
        yard = yard_of([ANN])
        yard.put("ann")
        for told in (yard.where(0), yard.counts(), yard.takes_of("ann"), yard.takes_of("ann")[0], yard.leap()[0]):
            self.assertIs(told.__class__, tuple)
        for told in (yard.names(), yard.holding("ann", 0), yard.beat(), yard.go(1), yard.leap()):
            self.assertIs(told.__class__, list)

    def test_what_is_told_is_the_asker_s_own(self):
        yard = yard_of([ANN])
        yard.put("ann")
        yard.beat()
        before = all_of(yard)
        for told in (yard.names(), yard.holding("ann", 0)):
            told.append("x")
        self.assertEqual(all_of(yard), before)
        self.assertEqual(all_of(yard), before)

    def test_happenings_are_the_asker_s_own(self):
        yard, other = yard_of([ANN]), yard_of([ANN])
        for one in (yard, other):
            one.put("ann", 2)
        for deed, args in (("leap", ()), ("go", (3,)), ("beat", ()), ("go", (0,)), ("go", (9,)), ("leap", ())):
            told = getattr(yard, deed)(*args)
            kept = list(told)
            told.append("x")
            told.reverse()
            self.assertEqual(getattr(other, deed)(*args), kept)
            self.assertEqual(all_of(yard), all_of(other))
            self.assertIsNot(yard.go(0), yard.go(0))

    def test_what_was_handed_in_isn_t_changed(self):
        takes, hands = [2, 1, 1, 4], [1, 1, 1, 1]
        gang, metal = Gang("ann", takes, hands), Metal(100, 90, [(2, 3), (1, 5)])
        yard = yard_of([gang], metal, rounds=1)
        yard.put("ann", 3)
        yard.paced("ann", 0, 7)
        yard.manned("ann", 3, 0)
        yard.like().go(50)
        yard.go(50)
        self.assertEqual((takes, hands), ([2, 1, 1, 4], [1, 1, 1, 1]))
        self.assertEqual(gang, ANN)
        self.assertEqual(metal, Metal(100, 90, ((2, 3), (1, 5))))

    def test_names_of_arguments(self):
        yard = Yard(metal=EVER_HOT, soak=1, burn=5, mouth=2, rounds=1)
        yard.joins(gang=ANN)
        yard.put(name="ann", many=2)
        yard.slow(name="ann", hole=0, more=1)
        yard.miss(name="ann", throw=1)
        yard.rest(name="ann", beats=1)
        yard.paced(name="ann", kind=0, beats=1)
        yard.manned(name="ann", kind=0, many=2)
        self.assertEqual(yard.go(beats=2), [(1, "drawn", 0), (1, "drawn", 1)])
        self.assertEqual(yard.where(piece=0), ("hand", "ann", 0, 1))
        self.assertEqual(yard.holding(name="ann", kind=0), [0, 1])
        self.assertEqual(yard.takes_of(name="ann"), ((1, 1, 1, 4), (2, 1, 1, 1)))

    def test_values_left_out(self):
        yard = Yard(hot_for(1), 0)
        yard.joins(ANN.handed(0, 4))
        yard.put("ann")
        yard.put("ann")
        self.assertEqual(yard.where(1), ("fire", 0, None))
        self.assertEqual(yard.go(5), [(0, "drawn", 0), (1, "drawn", 1), (2, "cold", 0), (3, "cold", 1)])

    def test_like(self):
        yard = yard_of([ANN, BOB], hot_for(9), soak=1, burn=30, mouth=2, rounds=2)
        yard.put("ann", 6)
        yard.put("bob", 6)
        yard.miss("ann", 2)
        yard.slow("bob", 3, 5)
        yard.rest("bob", 4)
        for _ in range(30):
            other = yard.like()
            self.assertIs(other.__class__, Yard)
            self.assertEqual(all_of(other), all_of(yard))
            before = all_of(yard)
            twin = yard.like()
            self.assertEqual(other.go(60), twin.go(60))
            self.assertEqual(all_of(yard), before)
            yard.beat()

    def test_like_and_what_is_done_to_both(self):
        yard = yard_of([ANN])
        yard.put("ann", 3)
        yard.go(3)
        other = yard.like()
        before = all_of(other)
        yard.joins(BOB)
        yard.put("bob", 9)
        yard.miss("ann", 1)
        yard.slow("ann", 0, 50)
        yard.paced("ann", 0, 90)
        yard.manned("ann", 3, 2)
        yard.rest("ann", 20)
        yard.go(30)
        self.assertEqual(all_of(other), before)
        kept = all_of(yard)
        told = other.go(99)
        self.assertEqual(told[-1], (16, "closed", 2, 2))
        other.put("ann", 20)
        other.go(99)
        self.assertEqual(all_of(yard), kept)

    def test_yards_don_t_share(self):
        one, other = yard_of([ANN]), yard_of([ANN])
        one.put("ann")
        one.paced("ann", 0, 9)
        one.go(3)
        self.assertEqual(all_of(other), (0, ["ann"], 0, (0, 0, 0, 0), [], [((2, 1, 1, 4), (1, 1, 1, 1))],
                                         [[], [], [], []]))


class RefusalsTest(unittest.TestCase):
    def setUp(self):
        self.yard = yard_of([ANN, BOB], hot_for(20), rounds=1)
        self.yard.put("ann", 4)
        self.yard.go(6)

    def refused(self, error, what, deed, *args):
        """It is refused so, and behind it all is as ahead of it."""
        before, twin = all_of(self.yard), self.yard.like()
        with self.assertRaises(error) as caught:
            getattr(self.yard, deed)(*args)
        self.assertIs(caught.exception.__class__, error)
        self.assertEqual(caught.exception.what, what)
        self.assertIs(caught.exception.what.__class__, what.__class__)
        self.assertEqual(all_of(self.yard), before)
        self.assertEqual(self.yard.like().go(99), twin.go(99))

    def test_known_gang(self):
        self.refused(KnownGang, "ann", "joins", Gang("ann", (1, 1, 1, 1)))
        self.refused(KnownGang, "bob", "joins", BOB)

    def test_too_many_gangs(self):
        for name in ("c", "d", "e", "f"):
            self.yard.joins(Gang(name, (1, 1, 1, 1)))
        self.refused(TooMany, 6, "joins", Gang("g", (1, 1, 1, 1)))
        # Told first: one so called came.
        self.refused(KnownGang, "f", "joins", Gang("f", (1, 1, 1, 1)))

    def test_too_many_pieces(self):
        self.refused(TooMany, 150, "put", "bob", 147)
        self.yard.put("bob", 146)
        self.refused(TooMany, 150, "put", "bob")
        self.refused(TooMany, 150, "put", "ann", 150)
        self.refused(NoGang, "cy", "put", "cy", 150)
        self.yard.go(FAR)
        self.refused(TooMany, 150, "put", "bob", 1)

    def test_no_gang(self):
        for name in ("cy", "", "Ann", "an", "anns"):
            self.refused(NoGang, name, "put", name)
            self.refused(NoGang, name, "slow", name, 0, 1)
            self.refused(NoGang, name, "miss", name, 0)
            self.refused(NoGang, name, "rest", name, 1)
            self.refused(NoGang, name, "paced", name, 0, 1)
            self.refused(NoGang, name, "manned", name, 0, 1)
            self.refused(NoGang, name, "holding", name, 0)
            self.refused(NoGang, name, "takes_of", name)

    def test_no_kind(self):
        for kind in (-1, 4, 10 ** 12, -4):
            self.refused(NoKind, kind, "paced", "ann", kind, 1)
            self.refused(NoKind, kind, "manned", "ann", kind, 1)
            self.refused(NoKind, kind, "holding", "ann", kind)
            self.refused(NoGang, "cy", "paced", "cy", kind, 1)
            self.refused(NoGang, "cy", "manned", "cy", kind, 1)
            self.refused(NoGang, "cy", "holding", "cy", kind)

    def test_no_piece(self):
        for piece in (-1, 4, 150, FAR):
            self.refused(NoPiece, piece, "where", piece)
        with self.assertRaises(NoPiece):
            Yard(EVER_HOT, 0).where(0)

    def test_begun(self):
        self.refused(Begun, 0, "slow", "ann", 0, 5)
        self.refused(Begun, 0, "miss", "ann", 0)
        self.refused(NoGang, "cy", "slow", "cy", 0, 5)


if __name__ == "__main__":
    unittest.main()
