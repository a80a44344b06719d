"""A book told late, in any order, beside one walked through beat by beat [20] [21]; of [1] (h)."""

import random
import unittest

from hotpass.book import Book
from hotpass.yard import Yard
from tests.plainbook import VOID_WORDS, PlainBook, do, some_args, some_deed, some_tellings
from tests.test_yardwalks import by_leaps, looked_at
from tests.walks import is_just

FAR = 10 ** 12


def some_books(many, seed, most=20):
    """Pairs of a book and a plain one, told the same, with some tellings untold."""
    chance = random.Random(seed)
    for _ in range(many):
        args = some_args(chance)
        book, plain = Book(*args), PlainBook(*args)
        for beat, deed in some_tellings(chance, most):
            book.tell(beat, deed)
            plain.tell(beat, deed)
            if chance.random() < 0.15:
                gone = chance.choice(book.standing())[0]
                book.untell(gone)
                plain.untell(gone)
        yield chance, book, plain


def seen(yard):
    return (yard.now(), yard.names(), looked_at(yard, len(yard), yard.names()))


def plainly_seen(yard):
    return (yard.t, list(yard.gangs), looked_at(yard, len(yard.all), list(yard.gangs)))


def looked_into(book):
    return (book.calls(), book.standing(), book.voids(), book.happened(0, 90), seen(book.yard_at(30)))


class BesideAPlainBookTest(unittest.TestCase):
    def test_yards(self):
        for chance, book, plain in some_books(80, 201):
            for beat in [0] + [chance.randint(0, 80) for _ in range(5)]:
                yard, (other, _, _) = book.yard_at(beat), plain.day(beat)
                self.assertTrue(is_just(seen(yard), plainly_seen(other)), (plain.args, plain.standing(), beat))
                # It goes on as a yard of its own: no later telling is done to it.
                later = [row for _ in range(25) for row in other.beat()]
                self.assertTrue(is_just(yard.go(25), later), (plain.args, plain.standing(), beat))

    def test_happenings(self):
        words = set()
        for chance, book, plain in some_books(200, 202):
            told = plain.day(120)[1]
            words |= {row[1] for row in told}
            self.assertTrue(is_just(book.happened(0, 120), told), (plain.args, plain.standing()))
            for _ in range(6):
                first, behind = chance.randint(0, 100), chance.randint(0, 120)
                self.assertEqual(book.happened(first, behind), [row for row in told if first <= row[0] < behind])
        self.assertEqual(words, {"closed", "cold", "burnt", "passed", "missed", "drawn"})

    def test_voids(self):
        words = set()
        for _, book, plain in some_books(250, 203):
            voids = plain.day(60)[2]
            self.assertTrue(is_just(book.voids(), voids), (plain.args, plain.standing()))
            words |= {word for _, word in voids}
        self.assertEqual(words, VOID_WORDS)

    def test_standing(self):
        for _, book, plain in some_books(60, 204):
            self.assertTrue(is_just(book.standing(), plain.standing()))

    def test_asked_between_tellings(self):
        """Whatever was asked ahead, what is told and untold later changes all that comes behind it."""
        chance = random.Random(205)
        for _ in range(60):
            args = some_args(chance)
            book, plain = Book(*args), PlainBook(*args)
            for beat, deed in some_tellings(chance, 12):
                self.assertEqual(book.tell(beat, deed), plain.tell(beat, deed))
                if chance.random() < 0.2:
                    gone = chance.choice(book.standing())[0]
                    book.untell(gone)
                    plain.untell(gone)
                end = chance.randint(0, 90)
                yard, told, _ = plain.day(end)
                asked = chance.randint(0, 3)
                if asked == 0:
                    self.assertEqual(seen(book.yard_at(end)), plainly_seen(yard), (args, plain.standing(), end))
                elif asked == 1:
                    self.assertEqual(book.happened(0, end), told, (args, plain.standing(), end))
                elif asked == 2:
                    self.assertEqual(book.voids(), plain.day(60)[2], (args, plain.standing()))
            self.assertEqual(book.happened(0, 90), plain.day(90)[1])

    def test_long_days(self):
        """So many happenings that a day is gone through in many parts."""
        chance = random.Random(206)
        for _ in range(6):
            args = (some_args(chance)[0], chance.choice((0, 3)), None, chance.randint(1, 2), chance.choice((0, 9)))
            book, plain = Book(*args), PlainBook(*args)
            rows = [(0, ("joins", name, (1, 1, 1, 1), (1, 1, 1, 1))) for name in ("ann", "bob")]
            rows += [(0, ("put", name, 30)) for name in ("ann", "bob")]
            rows += [(chance.randint(0, 400), some_deed(chance, ("ann", "bob"))) for _ in range(6)]
            for beat, deed in rows:
                book.tell(beat, deed)
                plain.tell(beat, deed)
            told = plain.day(700)[1]
            self.assertEqual(book.happened(0, 700), told)
            for _ in range(4):
                beat = chance.randint(0, 700)
                self.assertEqual(seen(book.yard_at(beat)), plainly_seen(plain.day(beat)[0]))
            beat = chance.randint(0, 400)
            number = book.tell(beat, ("rest", "ann", 50))
            plain.tell(beat, ("rest", "ann", 50))
            self.assertEqual(book.happened(0, 700), plain.day(700)[1])
            book.untell(number)
            self.assertEqual(book.happened(0, 700), told)


class InAnyOrderTest(unittest.TestCase):
    def test_as_one_told_in_time(self):
        """Tellings of one beat keep their order; else they are told in any."""
        for chance, book, plain in some_books(100, 207):
            rows = [row[1:] for row in plain.standing()]
            in_time, mixed = Book(*plain.args), Book(*plain.args)
            for beat, deed in sorted(rows, key=lambda row: row[0]):
                in_time.tell(beat, deed)
            queues = {}
            for beat, deed in rows:
                queues.setdefault(beat, []).append(deed)
            while queues:
                beat = chance.choice(sorted(queues))
                mixed.tell(beat, queues[beat].pop(0))
                queues = {key: deeds for key, deeds in queues.items() if deeds}
            for other in (in_time, mixed):
                self.assertEqual(other.happened(0, FAR), book.happened(0, FAR))
                self.assertEqual(sorted([word for _, word in other.voids()]), sorted([word for _, word in book.voids()]))
                for beat in (0, 7, 33, FAR):
                    self.assertEqual(seen(other.yard_at(beat)), seen(book.yard_at(beat)))

    def test_as_a_yard_to_which_it_is_done_in_time(self):
        for chance, book, plain in some_books(100, 208):
            voids = dict(book.voids())
            for steps in (lambda yard, beat: yard.go(beat - yard.now()), by_leaps):
                yard, told = Yard(*plain.args), []
                for number, beat, deed in sorted(plain.standing(), key=lambda row: (row[1], row[0])):
                    told += steps(yard, beat)
                    try:
                        do(yard, deed)
                    except Exception as error:
                        self.assertEqual(voids.get(number), error.__class__.__name__)
                    else:
                        self.assertNotIn(number, voids)
                last = yard.now()
                self.assertEqual(seen(book.yard_at(last)), seen(yard))
                told += steps(yard, last + 500)
                self.assertEqual(book.happened(0, last + 500), told)
                self.assertEqual(seen(book.yard_at(last + 500)), seen(yard))


class BeforeAndBehindTest(unittest.TestCase):
    def test_known_of_every_count(self):
        chance = random.Random(209)
        for _ in range(30):
            book, looks, tells = Book(*some_args(chance)), [], 0
            for beat, deed in some_tellings(chance, 8):
                looks.append((tells, looked_into(book)))
                book.tell(beat, deed)
                tells += 1
                if chance.random() < 0.3:
                    looks.append((tells, looked_into(book)))
                    book.untell(chance.choice(book.standing())[0])
            for many, (ahead, look) in enumerate(looks):
                old = book.known(many)
                self.assertEqual(looked_into(old), look)
                self.assertEqual(old.calls(), many)
                # Numbers that this book gave later are given by the old one too, on its own.
                self.assertEqual(old.tell(0, ("put", "ann", 1)), ahead)
            self.assertEqual(book.calls(), len(looks))
            self.assertEqual(looked_into(book.known(book.calls())), looked_into(book))

    def test_likes_go_on_alike(self):
        for chance, book, plain in some_books(60, 210, 8):
            other = book.like()
            for beat, deed in some_tellings(chance, 4):
                self.assertEqual(book.tell(beat, deed), other.tell(beat, deed))
            self.assertEqual((book.standing(), book.voids(), book.calls()), (other.standing(), other.voids(), other.calls()))
            self.assertEqual(book.happened(0, FAR), other.happened(0, FAR))


if __name__ == "__main__":
    unittest.main()
