"""A book, by days made by hand, and deeds that are none [20] [21]."""

import copy
import time
import unittest

from hotpass.book import Book
from hotpass.errors import BadDeed, Begun, NoGang, NoTelling, TooMany
from hotpass.gangs import Gang
from hotpass.metals import Metal
from hotpass.yard import Yard
from tests.walks import is_just, unlike_by_one

EVER_HOT = Metal(100, 0, [(1, 0)])
FAR = 10 ** 12
ONES = (1, 1, 1, 1)
ANN = ("joins", "ann", (2, 1, 1, 4), ONES)
BOB = ("joins", "bob", ONES, (4, 4, 4, 4))
DEEDS = (ANN, BOB, ("put", "ann", 2), ("slow", "ann", 0, 5), ("miss", "ann", 1), ("rest", "ann", 3),
         ("paced", "ann", 0, 7), ("manned", "ann", 3, 2))


def book_of(*rows, metal=EVER_HOT, soak=0, burn=None, mouth=1, rounds=0):
    book = Book(metal, soak, burn, mouth, rounds)
    for beat, deed in rows:
        book.tell(beat, deed)
    return book


def all_of(book):
    yard = book.yard_at(12)
    return (book.standing(), book.calls(), book.voids(), book.happened(0, FAR), yard.counts(), yard.names(),
            [yard.takes_of(name) for name in yard.names()])


def is_plainly_a_deed(thing):
    """Whether a thing is a deed, looked at part by part."""
    if thing.__class__ is not tuple or len(thing) < 3 or thing[0].__class__ is not str:
        return False
    name = thing[1]
    if name.__class__ is not str or not name.isascii() or not name.isalpha() or name != name.lower() or len(name) > 8:
        return False
    if thing[0] == "joins":
        return len(thing) == 4 and all(
            row.__class__ is tuple and len(row) == 4 and all(item.__class__ is int and 1 <= item <= most for item in row)
            for row, most in zip(thing[2:], (10 ** 6, 4)))
    bounds = {"put": [(1, 150)], "slow": [(0, 10 ** 6)] * 2, "miss": [(0, 10 ** 6)], "rest": [(0, 10 ** 9)],
              "paced": [(0, 3), (1, 10 ** 6)], "manned": [(0, 3), (0, 4)]}.get(thing[0], [])
    return len(thing) == len(bounds) + 2 and bounds != [] and all(
        item.__class__ is int and least <= item <= most for item, (least, most) in zip(thing[2:], bounds))


class TellTest(unittest.TestCase):
    def refused(self, deed):
        book = book_of((0, ANN), (1, ("put", "ann", 1)))
        ahead, given = all_of(book), copy.deepcopy(deed)
        with self.assertRaises(BadDeed) as caught:
            book.tell(3, deed)
        self.assertIs(caught.exception.__class__, BadDeed)
        self.assertTrue(is_just(caught.exception.what, given))
        self.assertTrue(is_just(deed, given))
        self.assertTrue(is_just(all_of(book), ahead))
        # No number is given to what is refused.
        self.assertEqual(book.tell(3, ("put", "ann", 1)), 2)

    def test_numbers_are_given_on(self):
        book = Book(EVER_HOT, 0)
        self.assertEqual([book.tell(9 - at, deed) for at, deed in enumerate(DEEDS)], list(range(8)))
        book.untell(7)
        book.untell(0)
        self.assertEqual(book.tell(0, ANN), 8)

    def test_bounds(self):
        for ahead, least, most, behind in (
                (("put", "ann"), 1, 150, ()), (("slow", "ann"), 0, 10 ** 6, (3,)), (("slow", "ann", 3), 0, 10 ** 6, ()),
                (("miss", "ann"), 0, 10 ** 6, ()), (("rest", "ann"), 0, 10 ** 9, ()),
                (("paced", "ann"), 0, 3, (5,)), (("paced", "ann", 1), 1, 10 ** 6, ()),
                (("manned", "ann"), 0, 3, (2,)), (("manned", "ann", 1), 0, 4, ())):
            for number in (least, least + 1, most):
                self.assertEqual(Book(EVER_HOT, 0).tell(0, ahead + (number,) + behind), 0)
            for number in (least - 1, most + 1, True, False, None, "1", [1], (1,), -FAR, 10 ** 5000):
                self.refused(ahead + (number,) + behind)

    def test_bounds_of_joins(self):
        for at in range(4):
            for takes_or_hands, most in ((2, 10 ** 6), (3, 4)):
                for number in (1, most, 0, most + 1, -1, True, None, "1", (1,)):
                    deed = list(("joins", "ann", ONES, ONES))
                    deed[takes_or_hands] = ONES[:at] + (number,) + ONES[at + 1:]
                    if number is not True and number in (1, most):
                        self.assertEqual(Book(EVER_HOT, 0).tell(0, tuple(deed)), 0)
                    else:
                        self.refused(tuple(deed))

    def test_no_deeds(self):
        for deed in ((), [], "", "put", "put ann 1", (None,), ("put",), ("put", "ann"), ["put", "ann", 1], ("puts", "ann", 1),
                     ("Put", "ann", 1), ("put", "Ann", 1), ("put", "", 1), ("put", "toolongsaid", 1), ("put", "ann", 1, 1),
                     ("put", None, 1), ("put", 7, 1), ("put", ["ann"], 1), ("put", ("ann",), 1), (["put"], "ann", 1),
                     (("put",), "ann", 1), (True, "ann", 1), ("beat",), ("go", "ann", 5), ("leap", "ann"), ("like", "ann"),
                     ("joins", "ann"), ("joins", "ann", ONES), ("joins", "ann", ONES, None), ("joins", "ann", ONES, list(ONES)),
                     ("joins", "ann", list(ONES), ONES), ("joins", "ann", ONES, ONES, ONES), ("joins", "ann", (1, 1, 1), ONES),
                     ("joins", "ann", ONES, (1, 1, 1, 1, 1)), ("joins", "ann", ((1,), 1, 1, 1), ONES), ("joins", "a n", ONES, ONES),
                     ("slow", "ann", 1), ("slow", "ann", 1, 1, 1), ("miss", "ann"), ("miss", "ann", 1, 1), ("rest", "ann"),
                     ("rest", "ann", 1, 1), ("paced", "ann", 1), ("paced", "ann", 1, 1, 1), ("manned", "ann", 1),
                     ("manned", "ann", 1, 1, 1), ("manned", "ann", "heater", 1), ("untell", "ann", 1), ("tell", "ann", 1),
                     ("at", 3, ("put", "ann", 1)), (("put", "ann", 1),), [[[["put"]]]], ([[(1,)]],), ((((None,),),),)):
            self.refused(deed)

    def test_otherwise_in_one_place(self):
        many = 0
        for deed in DEEDS:
            for thing in unlike_by_one(deed):
                if not isinstance(thing, (list, tuple, str)):
                    continue
                book = Book(EVER_HOT, 0)
                try:
                    number = book.tell(0, thing)
                except BadDeed as refusal:
                    self.assertFalse(is_plainly_a_deed(thing), thing)
                    self.assertTrue(is_just(refusal.what, thing))
                    self.assertEqual((book.calls(), book.standing()), (0, []))
                    many += 1
                else:
                    self.assertTrue(is_plainly_a_deed(thing), thing)
                    self.assertTrue(is_just(book.standing(), [(number, 0, thing)]))
        self.assertGreater(many, 300)

    def test_names_of_arguments(self):
        book = Book(metal=EVER_HOT, soak=0, burn=None, mouth=1, rounds=0)
        self.assertEqual(book.tell(deed=ANN, beat=3), 0)
        self.assertEqual(book.yard_at(beat=3).names(), ["ann"])
        self.assertEqual(book.happened(behind=9, first=0), [])
        self.assertEqual(book.known(many=0).standing(), [])
        self.assertIsNone(book.untell(number=0))
        self.assertEqual(Book(EVER_HOT, 0).calls(), 0)


class DayTest(unittest.TestCase):
    def test_told_late(self):
        book = book_of((4, ("rest", "ann", 3)), (0, ("put", "ann", 2)), (0, ANN))
        # Of one beat the lower number is done first: then there is no gang yet.
        self.assertEqual(book.voids(), [(1, "NoGang")])
        self.assertEqual(book.tell(0, ("put", "ann", 2)), 3)
        self.assertEqual(book.happened(0, 9), [(0, "drawn", 0), (2, "passed", 0, 1), (2, "drawn", 1), (3, "passed", 0, 2),
                                               (7, "passed", 0, 3), (7, "passed", 1, 1), (8, "passed", 1, 2)])
        book.untell(0)
        self.assertEqual(book.happened(4, 6), [(4, "passed", 0, 3), (4, "passed", 1, 1), (5, "passed", 1, 2)])

    def test_every_argument_counts(self):
        rows = [(0, ANN), (0, ("put", "ann", 3))]
        cold = Metal(11, 10, [(1, 1)])
        self.assertEqual(book_of(*rows, soak=3).happened(0, 5), [(3, "drawn", 0)])
        self.assertEqual(book_of(*rows, burn=1).happened(0, 3), [(0, "drawn", 0), (2, "burnt", 1), (2, "burnt", 2), (2, "passed", 0, 1)])
        self.assertEqual(book_of(*rows, (0, ("manned", "ann", 0, 4)), mouth=2).happened(0, 1), [(0, "drawn", 0), (0, "drawn", 1)])
        self.assertEqual(book_of(*rows, metal=cold).happened(0, 3), [(0, "drawn", 0), (2, "cold", 0), (2, "drawn", 1)])
        self.assertEqual(book_of(*rows, metal=cold, rounds=1).yard_at(3).where(0), ("hand", "ann", 0, 2))
        self.assertEqual(book_of(*rows, metal=cold).yard_at(3).where(0), ("heap", "cold"))

    def test_arguments_that_are_left_out(self):
        rows = [(0, BOB), (0, ("put", "bob", 4)), (0, ("paced", "bob", 0, 9))]
        for metal in (EVER_HOT, Metal(11, 10, [(1, 1)])):
            short, full = Book(metal, 2), Book(metal, 2, None, 1, 0)
            for row in rows:
                short.tell(*row)
                full.tell(*row)
            self.assertEqual(all_of(short), all_of(full))
            self.assertEqual(short.happened(0, 3), [(2, "drawn", 0)])
            others = [(metal, 2, 0), (metal, 2, None, 2), (metal, 2, None, 1, 1)][:3 if metal.life() is not None else 2]
            for args in others:
                other = Book(*args)
                for row in rows:
                    other.tell(*row)
                self.assertNotEqual(all_of(other), all_of(short), args)

    def test_a_yard_with_its_deeds_done_and_nothing_happened(self):
        book = book_of((0, ANN), (5, ("put", "ann", 2)))
        self.assertEqual(len(book.yard_at(4)), 0)
        yard = book.yard_at(5)
        self.assertIsInstance(yard, Yard)
        self.assertEqual((yard.now(), len(yard), yard.where(0)), (5, 2, ("fire", 5, None)))
        self.assertEqual(yard.beat(), [(5, "drawn", 0)])
        self.assertEqual(book.yard_at(0).names(), ["ann"])

    def test_happened_where_there_is_nothing(self):
        book = book_of((0, ANN), (0, ("put", "ann", 1)))
        for first, behind in ((0, 0), (5, 5), (9, 2), (1, 2), (9, FAR), (FAR, FAR), (FAR, 0)):
            self.assertEqual(book.happened(first, behind), [], (first, behind))
        self.assertEqual(book.happened(0, 1), [(0, "drawn", 0)])
        self.assertEqual(book.happened(8, FAR), [(8, "closed", 0, 0)])
        self.assertEqual(Book(EVER_HOT, 0).happened(0, FAR), [])

    def test_voids_of_each_kind(self):
        gangs = [(0, ("joins", name, ONES, ONES)) for name in ("a", "b", "c", "d", "e", "f", "g", "a")]
        book = book_of(*gangs, (0, ("put", "a", 150)), (1, ("put", "b", 1)), (9, ("slow", "a", 0, 1)), (9, ("miss", "a", 0)),
                       (0, ("rest", "zoe", 1)), (0, ("put", "g", 1)), (0, ("slow", "g", 0, 0)), (0, ("miss", "g", 0)),
                       (0, ("paced", "g", 0, 1)), (10 ** 6, ("manned", "g", 0, 1)), (9, ("slow", "a", 150, 1)))
        self.assertTrue(is_just(book.voids(), [
            (6, "TooMany"), (7, "KnownGang"), (9, "TooMany"), (10, "Begun"), (11, "Begun"), (12, "NoGang"), (13, "NoGang"),
            (14, "NoGang"), (15, "NoGang"), (16, "NoGang"), (17, "NoGang")]))
        # Where the first gang doesn't come, the seventh does; what was told of the first is void.
        book.untell(0)
        self.assertTrue(is_just(book.voids(), [(7, "TooMany"), (8, "NoGang"), (10, "NoGang"), (11, "NoGang"), (12, "NoGang"),
                                               (18, "NoGang")]))

    def test_a_known_gang_goes_ahead_of_too_many(self):
        book = book_of(*[(0, ("joins", name, ONES, ONES)) for name in ("a", "b", "c", "d", "e", "f", "f")])
        self.assertEqual(book.voids(), [(6, "KnownGang")])

    def test_a_void_telling_changes_nothing(self):
        book = book_of((0, ANN), (0, ("put", "ann", 149)))
        self.assertEqual(book.tell(0, ("put", "ann", 2)), 2)
        self.assertEqual(len(book.yard_at(0)), 149)
        self.assertEqual(book.tell(0, ("put", "ann", 1)), 3)
        self.assertEqual(len(book.yard_at(0)), 150)
        self.assertEqual(book.voids(), [(2, "TooMany")])
        book.untell(1)
        self.assertEqual((len(book.yard_at(0)), book.voids()), (3, []))

    def test_an_earlier_telling_makes_a_later_one_void(self):
        book = book_of((9, BOB), (9, ("put", "bob", 1)))
        self.assertEqual(book.voids(), [])
        book.tell(3, ("joins", "bob", (2, 2, 2, 2), ONES))
        self.assertEqual(book.voids(), [(0, "KnownGang")])
        self.assertEqual(book.yard_at(9).takes_of("bob"), ((2, 2, 2, 2), ONES))
        book.untell(2)
        self.assertEqual(book.voids(), [])
        self.assertEqual(book.yard_at(9).takes_of("bob"), (ONES, (4, 4, 4, 4)))

    def test_deeds_of_each_kind(self):
        book = book_of((0, ANN), (0, ("put", "ann", 2)), (0, ("slow", "ann", 0, 5)), (0, ("miss", "ann", 1)),
                       (1, ("paced", "ann", 0, 7)), (1, ("manned", "ann", 1, 3)), (20, ("rest", "ann", 3)))
        yard = Yard(EVER_HOT, 0)
        yard.joins(Gang("ann", (2, 1, 1, 4)))
        yard.put("ann", 2)
        yard.slow("ann", 0, 5)
        yard.miss("ann", 1)
        told = yard.go(1)
        yard.paced("ann", 0, 7)
        yard.manned("ann", 1, 3)
        told += yard.go(19)
        yard.rest("ann", 3)
        self.assertEqual(book.happened(0, 20), told)
        self.assertEqual(book.yard_at(20).takes_of("ann"), ((7, 1, 1, 4), (1, 3, 1, 1)))
        self.assertIn((10, "missed", 1), told)

    def test_far_beats(self):
        begun = time.perf_counter()
        book = book_of((10 ** 6, ANN), (10 ** 6, ("put", "ann", 1)), (10 ** 6, ("rest", "ann", 10 ** 9)))
        begin = 10 ** 6 + 10 ** 9
        told = [(begin, "drawn", 0), (begin + 2, "passed", 0, 1), (begin + 3, "passed", 0, 2), (begin + 4, "passed", 0, 3),
                (begin + 8, "closed", 0, 0)]
        self.assertEqual(book.happened(0, FAR), told)
        self.assertEqual(book.happened(begin + 3, begin + 4), told[2:3])
        self.assertEqual(book.yard_at(FAR).now(), FAR)
        self.assertEqual(book.yard_at(FAR).counts(), (0, 0, 1, 0))
        self.assertEqual(book.yard_at(begin).counts(), (1, 0, 0, 0))
        self.assertEqual(Book(EVER_HOT, 0).yard_at(FAR).now(), FAR)
        self.assertLess(time.perf_counter() - begun, 5)


class StandingTest(unittest.TestCase):
    def test_standing_and_calls(self):
        book = Book(EVER_HOT, 0)
        self.assertEqual((book.standing(), book.calls(), book.voids()), ([], 0, []))
        book.tell(9, ("put", "ann", 1))
        book.tell(0, ANN)
        self.assertTrue(is_just(book.standing(), [(0, 9, ("put", "ann", 1)), (1, 0, ANN)]))
        self.assertEqual(book.calls(), 2)
        self.assertIsNone(book.untell(0))
        self.assertTrue(is_just(book.standing(), [(1, 0, ANN)]))
        self.assertEqual(book.calls(), 3)

    def test_no_telling(self):
        book = book_of((0, ANN), (0, ("put", "ann", 1)), (0, ("put", "bob", 1)))
        book.untell(1)
        for number in (1, 3, 4, -1, -2, FAR, 10 ** 5000):
            ahead = all_of(book)
            with self.assertRaises(NoTelling) as caught:
                book.untell(number)
            self.assertIs(caught.exception.__class__, NoTelling)
            self.assertEqual(caught.exception.what, number)
            self.assertEqual(all_of(book), ahead)
        # A void telling stands.
        self.assertEqual(book.voids(), [(2, "NoGang")])
        book.untell(2)
        self.assertEqual(book.voids(), [])
        self.assertEqual(book.tell(0, ANN), 3)

    def test_known(self):
        book = Book(EVER_HOT, 2, 5, 3, 1)
        looks = [all_of(book)]
        for number, deed in enumerate(DEEDS):
            book.tell(20 - number if deed not in (ANN, BOB) else number, deed)
            looks.append(all_of(book))
            if number % 3 == 2:
                book.untell(number - 1)
                looks.append(all_of(book))
        for many, look in enumerate(looks):
            self.assertTrue(is_just(all_of(book.known(many)), look), many)
            self.assertIsInstance(book.known(many), Book)
        for many in (len(looks), len(looks) + 1, FAR):
            with self.assertRaises(NoTelling) as caught:
                book.known(many)
            self.assertEqual(caught.exception.what, many)
        self.assertEqual(book.calls(), len(looks) - 1)
        # What an old book knew is known of it still, and no more.
        self.assertEqual(all_of(book.known(5).known(2)), looks[2])
        self.assertRaises(NoTelling, book.known(5).known, 6)

    def test_known_keeps_the_number_of_untold_ones(self):
        book = book_of((0, ANN), (0, BOB))
        book.untell(1)
        self.assertEqual(book.known(3).tell(0, BOB), 2)
        self.assertEqual(book.known(2).tell(0, BOB), 2)
        self.assertEqual(book.known(1).tell(0, BOB), 1)
        self.assertEqual(book.known(0).tell(0, BOB), 0)
        self.assertEqual(book.like().tell(0, BOB), 2)

    def test_books_are_of_their_own(self):
        book = book_of((0, ANN), (3, ("put", "ann", 1)))
        ahead = all_of(book)
        for other in (book.like(), book.known(2), book.known(1)):
            other.tell(0, BOB)
            other.tell(0, ("put", "bob", 9))
            other.untell(0)
            other.happened(0, FAR)
            self.assertEqual(all_of(book), ahead)
        other = book.like()
        self.assertEqual(all_of(other), ahead)
        book.tell(1, BOB)
        book.untell(0)
        self.assertEqual(all_of(other), ahead)

    def test_yards_are_of_their_own(self):
        book = book_of((0, ANN), (3, ("put", "ann", 2)))
        for beat in (0, 3, 5, 50):
            ahead = all_of(book)
            yards = [book.yard_at(beat), book.yard_at(beat)]
            yards[0].joins(Gang("zoe", ONES))
            yards[0].put("ann", 9)
            yards[0].slow("ann", 100, 4)
            yards[0].paced("ann", 1, 9)
            yards[0].go(30)
            self.assertEqual(all_of(book), ahead)
            self.assertEqual(yards[1].names(), ["ann"])
            # What is told of later beats isn't done to it.
            self.assertEqual(yards[1].go(40), [] if beat < 3 else book.happened(beat, beat + 40))
        yard = book.yard_at(4)
        book.tell(0, ("rest", "ann", 10 ** 9))
        book.untell(1)
        self.assertEqual(yard.beat(), [])
        self.assertEqual(yard.beat(), [(5, "passed", 0, 1), (5, "drawn", 1)])

    def test_what_is_told_is_the_askers_own(self):
        book = book_of((0, ANN), (3, ("put", "ann", 2)), (3, ("put", "bob", 2)))
        ahead = all_of(book)
        for told in (book.standing(), book.voids(), book.happened(0, FAR), book.happened(0, 5)):
            told.append("x")
            told.reverse()
            told.clear()
        self.assertEqual(all_of(book), ahead)

    def test_the_metal_is_not_kept(self):
        metal = Metal(12, 10, [(1, 1)])
        book = book_of((0, ANN), (0, ("put", "ann", 1)), metal=metal)
        ahead = all_of(book)
        metal.least, metal.losses = 0, ((1, 0),)
        self.assertEqual(all_of(book), ahead)
        self.assertEqual(all_of(book.like()), ahead)


class GreatBookTest(unittest.TestCase):
    def test_eighty_tellings_in_short_time(self):
        begun = time.perf_counter()
        names = ("ann", "bob", "cy", "di", "eve", "fay")
        book = Book(Metal(12, 10, [(1, 1)]), 3, 10 ** 6, 1, 9)
        rows = [(0, ("joins", name, ONES, ONES)) for name in names] + [(0, ("put", name, 25)) for name in names]
        rows += [(1600 - 20 * k, ("rest", names[k % 6], 5)) for k in range(68)]
        for beat, deed in rows:
            book.tell(beat, deed)
        self.assertEqual((book.calls(), book.voids()), (80, []))
        told = book.happened(0, FAR)
        self.assertGreater(len(told), 4000)
        for beat in range(0, 2000, 20):
            self.assertEqual(sum(book.yard_at(beat).counts()), 150)
            self.assertEqual(book.happened(beat, beat + 20), [row for row in told if beat <= row[0] < beat + 20])
        for many in range(81):
            self.assertEqual(book.known(many).calls(), many)
        self.assertLess(time.perf_counter() - begun, 20)

    def test_refusals_of_a_yard_that_was_told(self):
        yard = book_of((0, ANN), (0, ("put", "ann", 150))).yard_at(9)
        self.assertRaises(TooMany, yard.put, "ann", 1)
        self.assertRaises(NoGang, yard.put, "bob", 1)
        self.assertRaises(Begun, yard.miss, "ann", 0)


if __name__ == "__main__":
    unittest.main()
