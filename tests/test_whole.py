"""What is promised over the whole program, (a) to (h) of [1], by walks through all stages."""

import random
import unittest

from hotpass.book import Book
from hotpass.desk import answers
from hotpass.errors import Lacks
from hotpass.gangs import Gang
from hotpass.metals import Metal
from hotpass.passing import held, passed, shows_passed
from hotpass.plans import asks_of, keeps, least_end
from hotpass.rounds import round_of, shows_round
from hotpass.shares import for_ever
from hotpass.sheetpapers import places_for, ring_for, shows_places, shows_ring
from hotpass.sheets import follows, lack_of
from hotpass.slow import first_cold, late_by, made_up
from hotpass.texts import gang_in, gang_text, metal_in, metal_text
from hotpass.turnpapers import burnt_paper, shows_turns
from hotpass.turns import least_mouth, turns
from hotpass.yard import Yard
from tests.plainbook import do, some_args, some_tellings
from tests.test_desk import happening, place_text, row_of, yard_row
from tests.walks import asked_up_to, some_gangs, some_shares

FAR = 10 ** 12
EVER_HOT = Metal(9, 0, [(1, 0)])
SPAN = 400


def some_days(many, seed):
    """Books, with the arguments of their yards and with their tellings."""
    chance = random.Random(seed)
    for _ in range(many):
        args, rows = some_args(chance), some_tellings(chance)
        book = Book(*args)
        for row in rows:
            book.tell(*row)
        yield chance, args, rows, book


def gang_of(book, piece):
    """The name of the gang of a piece, by the pieces that were put in their order."""
    voids = dict(book.voids())
    put = []
    for number, beat, deed in sorted(book.standing(), key=lambda row: (row[1], row[0])):
        if deed[0] == "put" and number not in voids:
            put += [deed[1]] * deed[2]
    return put[piece]


def stories(told):
    """For each piece the list of its happenings."""
    rows = {}
    for row in told:
        rows.setdefault(row[2], []).append(row)
    return rows


class EachPieceTest(unittest.TestCase):
    """(a), (b)"""

    def test_closed_hot_missed_or_let_go_cold(self):
        ends = set()
        for _, args, _, book in some_days(150, 11):
            life, rounds = args[0].life(), args[4]
            for story in stories(book.happened(0, FAR)).values():
                kind, drawn, again = None, None, 0
                for beat, word, _, *more in story:
                    if word == "drawn":
                        self.assertIsNone(kind)
                        kind, drawn = 0, beat
                    elif word == "passed":
                        self.assertEqual(more, [kind + 1])
                        kind += 1
                        self.assertTrue(life is None or beat - drawn <= life)
                    elif word == "missed":
                        self.assertEqual(kind, 1)
                    elif word == "closed":
                        self.assertEqual(kind, 3)
                    elif word == "cold":
                        self.assertIn(kind, (0, 1, 2))
                        self.assertEqual(beat, drawn + life + 1)
                        again += 1
                        kind = None
                    else:
                        self.assertIsNone(kind)
                self.assertLessEqual(again, rounds + 1)
                end = story[-1][1]
                ends.add(end)
                self.assertEqual([row[1] for row in story[:-1] if row[1] in ("closed", "missed", "burnt")], [])
        self.assertGreaterEqual(ends, {"closed", "missed", "cold", "burnt"})

    def test_no_piece_passes_an_earlier_one(self):
        for _, _, _, book in some_days(100, 12):
            lines = {}
            for beat, word, piece, *more in book.happened(0, FAR):
                name = gang_of(book, piece)
                rows = lines.setdefault(name, [[], [], [], []])
                if word == "drawn":
                    rows[0].append(piece)
                    continue
                kind = [at for at in range(4) if piece in rows[at]]
                if word == "passed" or word == "missed":
                    # Of those that are with a hand the one that came first goes on first.
                    self.assertEqual(rows[kind[0]][0], piece)
                for at in kind:
                    rows[at].remove(piece)
                if word == "passed":
                    rows[more[0]].append(piece)

    def test_no_hand_holds_two(self):
        for chance, _, rows, book in some_days(80, 13):
            if any(deed[0] == "manned" for _, deed in rows):
                continue
            for beat in [chance.randint(0, 100) for _ in range(10)]:
                yard = book.yard_at(beat)
                for name in yard.names():
                    for kind, many in enumerate(yard.takes_of(name)[1]):
                        self.assertLessEqual(len(yard.holding(name, kind)), many)

    def test_passed_as_a_book_tells_it(self):
        chance = random.Random(14)
        for gang in some_gangs(150, 14):
            asks = sorted(chance.randint(0, 30) for _ in range(chance.randint(1, 9)))
            holes = [chance.choice((0, 0, 4)) for _ in range(5)]
            life = chance.choice((gang.through(), gang.through() + 5, 3))
            runs = passed(gang, asks, holes, None, life)
            self.assertTrue(shows_passed(gang, asks, holes, None, life, runs))
            book = Book(Metal(10 + life, 10, [(1, 1)]), 0, None, 4)
            for number, ask in enumerate(asks):
                book.tell(ask, ("put", "ann", 1))
            for hole, more in enumerate(holes):
                book.tell(0, ("slow", "ann", hole, more))
            # Told last of all, of the first beat: so what was told of that beat ahead of it is void.
            book.tell(0, ("joins", "ann", gang.takes, gang.hands))
            for number, beat, deed in book.standing():
                if number in dict(book.voids()):
                    book.untell(number)
                    book.tell(beat, deed)
            self.assertEqual(book.voids(), [])
            for number, (word, begins, beat) in enumerate(runs):
                story = [row for row in book.happened(0, FAR) if row[2] == number]
                self.assertEqual([row[0] for row in story[:-1]], list(begins))
                self.assertEqual(story[-1][:2], (beat, word))
            beat = chance.randint(0, 40)
            self.assertEqual([book.yard_at(beat + 1).holding("ann", kind) for kind in range(4)], list(held(runs, beat)))


class PaceTest(unittest.TestCase):
    """(c), (e)"""

    def test_no_sooner_than_the_least_end(self):
        for gang in some_gangs(150, 21):
            yard = Yard(EVER_HOT, 0, None, 4)
            yard.joins(gang)
            yard.put("ann", 25)
            closed = [row[0] for row in yard.go(FAR) if row[1] == "closed"]
            for number, beat in enumerate(closed):
                self.assertGreaterEqual(beat, least_end(gang, number + 1))
            # By asks of the first beat the least end is come to.
            self.assertEqual(closed[-1], least_end(gang, 25))

    def test_a_plan_that_is_kept_never_waits(self):
        for gang in some_gangs(200, 22):
            top, bottom = gang.pace()
            self.assertTrue(keeps(gang, (top, bottom)))
            self.assertFalse(keeps(gang, (top * 1000 - 1, bottom * 1000)))
            asks = asks_of((top, bottom), 20)
            for (word, begins, _), ask in zip(passed(gang, asks), asks):
                self.assertEqual((word, begins[0], begins[3]), ("closed", ask, ask + gang.through()))
            self.assertEqual(gang_in(gang_text(gang)).pace(), (top, bottom))

    def test_a_slow_hole_is_made_up(self):
        for gang in some_gangs(60, 23):
            plan = (gang.pace()[0] + 1, gang.pace()[1])
            asks = asks_of(plan, 60)
            yard = Yard(EVER_HOT, 0, None, 4)
            yard.joins(gang)
            yard.slow("ann", 1, 20)
            told = []
            for ask in asks:
                told += yard.go(ask - yard.now())
                yard.put("ann")
            told += yard.go(FAR - yard.now())
            begins = [row[0] for row in told if row[1] == "passed" and row[3] == 3]
            late = [beat - ask - gang.through() for beat, ask in zip(begins, asks)]
            self.assertEqual(late_by(gang, plan, [0, 20], 60), late)
            number = made_up(gang, plan, [0, 20])
            self.assertEqual(set(late[number:]), {0} if number < 60 else set())
            self.assertTrue(number == 0 or number > 60 or late[number - 1] > 0)
            drawn = [row[0] for row in told if row[1] == "drawn"]
            cold = [at for at in range(60) if begins[at] - drawn[at] > gang.through() + 3]
            self.assertEqual(first_cold(gang, plan, [0, 20], gang.through() + 3), cold[0] if cold else None)


class FireTest(unittest.TestCase):
    """(d)"""

    def test_a_yard_draws_by_turns(self):
        chance = random.Random(31)
        for _ in range(100):
            soak, burn, mouth = chance.randint(0, 3), chance.randint(0, 6), chance.randint(1, 4)
            book, wishes = Book(EVER_HOT, soak, burn, mouth), []
            for name in ("ann", "bob"):
                book.tell(0, ("joins", name, (1, 1, 1, 1), (4, 4, 4, 4)))
            for beat in sorted(chance.randint(0, 8) for _ in range(chance.randint(1, 30))):
                book.tell(beat, ("put", chance.choice(("ann", "bob")), 1))
                wishes.append((beat + soak, beat + soak + burn))
            told = book.happened(0, FAR)
            drawn = {row[2]: row[0] for row in told if row[1] == "drawn"}
            found = [drawn.get(piece) for piece in range(len(wishes))]
            self.assertEqual(found, turns(wishes, mouth))
            self.assertEqual(found.count(None), len([row for row in told if row[1] == "burnt"]))
            self.assertTrue(shows_turns(wishes, mouth, found, burnt_paper(wishes, mouth)))
            self.assertEqual(None in found, least_mouth(wishes) > mouth)

    def test_shares_for_ever(self):
        words = set()
        for shares, mouth in some_shares(150, 32):
            told = for_ever(shares, mouth)
            # Of pieces of like last those of the share ahead are drawn first, whatever their asks.
            pieces = sorted(asked_up_to(shares, SPAN), key=lambda piece: piece[2:])
            found = turns([piece[:2] for piece in pieces], mouth)
            burnt = [(piece[1], *piece[2:]) for piece, beat in zip(pieces, found) if beat is None]
            early = [row for row in burnt if row[0] < SPAN]
            words.add(told[0])
            if told[0] == "kept":
                self.assertEqual(early, [])
                self.assertTrue(shows_round(shares, mouth, round_of(shares, mouth)))
            else:
                self.assertIsNone(round_of(shares, mouth))
                beats, many, first, wide = shares[told[1]]
                last = first + told[2] * beats // many + wide
                self.assertEqual(min(early, default=(last, *told[1:])), (last, *told[1:]))
                self.assertEqual(early == [], last >= SPAN)
        self.assertEqual(words, {"kept", "burnt"})


class YardTest(unittest.TestCase):
    """(f), (g)"""

    def test_by_leaps_as_beat_by_beat(self):
        for _, args, rows, book in some_days(100, 41):
            ways = []
            for step in ("beat", "leap"):
                yard, told = Yard(*args), []
                for beat, deed in sorted(rows, key=lambda row: row[0]) + [(150, None)]:
                    while yard.now() < beat:
                        ahead = yard.like()
                        if step == "leap" and (not ahead.leap() or ahead.now() > beat):
                            told += yard.go(beat - yard.now())
                        else:
                            told += getattr(yard, step)()
                    try:
                        do(yard, deed or ("rest", "zoe", 0))
                    except Exception:
                        continue
                ways.append((told, yard.counts(), yard.now()))
            self.assertEqual(ways[0], ways[1])
            self.assertEqual(book.happened(0, 150), ways[0][0])

    def moves(self, book, beat):
        """From where to where pieces went up to a beat, how many of each."""
        told = book.happened(0, beat)
        lying = [book.yard_at(beat).where(piece) for piece in range(len(book.yard_at(beat)))]
        many = {("put", "fire"): len(lying)}
        for row in told:
            if row[1] == "drawn":
                pair = ("fire", "hand")
            elif row[1] == "closed":
                pair = ("hand", "hole")
            elif row[1] == "burnt":
                pair = ("fire", "heap")
            elif row[1] == "missed":
                pair = ("hand", "heap")
            elif row[1] == "cold":
                is_last = row == [other for other in told if other[2] == row[2]][-1]
                pair = ("hand", "heap") if is_last and lying[row[2]] == ("heap", "cold") else ("hand", "fire")
            else:
                continue
            many[pair] = many.get(pair, 0) + 1
        return [(*pair, number) for pair, number in sorted(many.items())]

    def test_all_that_was_put_lies_somewhere(self):
        for chance, _, _, book in some_days(80, 42):
            beat = chance.randint(0, 120)
            lines, counts = self.moves(book, beat), book.yard_at(beat).counts()
            self.assertEqual(sum(counts), len(book.yard_at(beat)))
            counted = list(zip(("fire", "hand", "hole", "heap"), counts))
            self.assertIsNone(lack_of((lines, counted)))
            self.assertEqual(follows((lines, counted)), [line[2] for line in lines])
            hidden = [(*line[:2], None if chance.random() < 0.5 else line[2]) for line in lines]
            for line, number, (_, _, real) in zip(range(len(lines)), follows((hidden, counted)), lines):
                self.assertIn(number, (real, None))
                if hidden[line][2] is None:
                    self.assertEqual(shows_places((hidden, counted), line, places_for((hidden, counted), line)), number is not None)
                    self.assertEqual(shows_ring((hidden, counted), line, ring_for((hidden, counted), line)), number is None)
            # A piece that was miscounted is found to lack just where it was.
            wrong = [(place, many + (place == "hole")) for place, many in counted]
            self.assertEqual(lack_of((lines, wrong)), (("hole",), -1))
            self.assertRaises(Lacks, follows, (lines, wrong))


class BookTest(unittest.TestCase):
    """(h)"""

    def test_told_late_in_any_order(self):
        for chance, args, rows, book in some_days(100, 51):
            # Of like beats the order stays; else any will do.
            mixed = sorted(rows, key=lambda row: (row[0] * 7919 % 101, row[0]))
            late = Book(*args)
            for beat, deed in mixed:
                late.tell(beat, deed)
            self.assertEqual(late.happened(0, FAR), book.happened(0, FAR))
            self.assertEqual(sorted(word for _, word in late.voids()), sorted(word for _, word in book.voids()))
            text = "\n".join([yard_row(*args)] + [row_of(*row) for row in mixed] + [f"happened 0 {FAR}"])
            self.assertEqual(answers(text)[-1], " ".join([happening(row) for row in book.happened(0, FAR)]) or "-")

    def test_through_texts(self):
        for chance, args, rows, book in some_days(60, 52):
            again = Book(metal_in(metal_text(args[0])), *args[1:])
            for beat, deed in rows:
                if deed[0] == "joins":
                    gang = gang_in(gang_text(Gang(*deed[1:])))
                    deed = ("joins", gang.name, gang.takes, gang.hands)
                again.tell(beat, deed)
            beat = chance.randint(0, 90)
            yard, other = book.yard_at(beat), again.yard_at(beat)
            self.assertEqual([place_text(yard.where(piece)) for piece in range(len(yard))],
                             [place_text(other.where(piece)) for piece in range(len(other))])


if __name__ == "__main__":
    unittest.main()
