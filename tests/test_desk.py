"""A desk [23]: rows of a text told to a book, or asked of it."""

import random
import re
import time
import unittest

from hotpass.book import Book
from hotpass.desk import answers
from hotpass.errors import BadRow, NoGang, NoPiece, NoTelling
from hotpass.gangs import Gang
from hotpass.metals import Metal
from hotpass.texts import gang_text, metal_text
from hotpass.yard import Yard
from tests.plainbook import do, some_args, some_tellings
from tests.walks import is_just

HANDS = ("heater", "thrower", "holder", "closer")
FAR = 10 ** 12
YARD = "yard 0 never 1 0 100 0 0 1:0"
N = r"(0|[1-9][0-9]*)"
NAME = "([a-z]{1,8})"
HAND = "(heater|thrower|holder|closer)"
# Each form of a row with the bounds of its numbers, in order.
FORMS = (
    (rf"at {N} put {NAME} {N}", ((0, 10 ** 6), (1, 150))),
    (rf"at {N} slow {NAME} {N} {N}", ((0, 10 ** 6), (0, 10 ** 6), (0, 10 ** 6))),
    (rf"at {N} miss {NAME} {N}", ((0, 10 ** 6), (0, 10 ** 6))),
    (rf"at {N} rest {NAME} {N}", ((0, 10 ** 6), (0, 10 ** 9))),
    (rf"at {N} paced {NAME} {HAND} {N}", ((0, 10 ** 6), (1, 10 ** 6))),
    (rf"at {N} manned {NAME} {HAND} {N}", ((0, 10 ** 6), (0, 4))),
    (rf"at {N} joins {NAME} {N} {N} {N} {N}", ((0, 10 ** 6),) + ((1, 10 ** 6),) * 4),
    (rf"at {N} joins {NAME} {N} {N} {N} {N}(?! 1 1 1 1$) {N} {N} {N} {N}", ((0, 10 ** 6),) + ((1, 10 ** 6),) * 4 + ((1, 4),) * 4),
    (rf"untell {N}", ((0, FAR),)), (rf"where {N} {N}", ((0, FAR), (0, FAR))), (rf"counts {N}", ((0, FAR),)),
    (rf"holding {NAME} {HAND} {N}", ((0, FAR),)), (rf"gang {NAME} {N}", ((0, FAR),)), (rf"pace {NAME} {N}", ((0, FAR),)),
    (rf"happened {N} {N}", ((0, FAR), (0, FAR))), ("voids", ()), ("calls", ()))


def is_plainly_a_row(row):
    for form, bounds in FORMS:
        found = re.fullmatch(form, row, re.ASCII)
        if found:
            numbers = [int(part) for part in found.groups() if part.isdigit()]
            return all(least <= number <= most for number, (least, most) in zip(numbers, bounds, strict=True))
    return False


def is_plainly_a_yard(row):
    found = re.fullmatch(rf"yard {N} (?:never|{N}) {N} {N} {N} {N} {N}((?: {N}:{N}){{1,6}})", row, re.ASCII)
    if not found:
        return False
    soak, burn, mouth, rounds, full, least, air = [int(part or 0) for part in found.groups()[:7]]
    losses = [[int(part) for part in pair.split(":")] for pair in found.group(8).split()]
    return (max(soak, burn, full) <= 10 ** 6 and 1 <= mouth <= 4 and rounds <= 9 and least <= full and air <= full
            and all(1 <= many <= 10 ** 6 and loss <= 10 ** 6 for many, loss in losses))


def told_by(*rows):
    return answers("\n".join((YARD,) + rows))


def bad_row(text):
    """The number of the row by which a text is refused; None where it isn't."""
    try:
        answers(text)
    except BadRow as bad:
        assert bad.__class__ is BadRow and bad.what.__class__ is int
        return bad.what
    return None


def unlike_by_one_sign(row):
    for at in range(len(row) + 1):
        yield row[:at] + row[at + 1:]
        for sign in " 019:az-+A_.~" + "\t":
            yield row[:at] + sign + row[at:]
            yield row[:at] + sign + row[at + 1:]


class HandWrittenTest(unittest.TestCase):
    def test_a_day(self):
        told = answers("\n".join((
            "yard 3 20 1 1 900 600 0 5:10 1:20",
            "at 0 joins ann 2 1 1 4 1 1 1 2",
            "at 0 put ann 2",
            "at 0 slow ann 0 5",
            "where 0 0",
            "where 0 3",
            "where 0 4",
            "where 1 4",
            "counts 6",
            "happened 0 6",
            "holding ann heater 6",
            "holding ann thrower 5",
            "holding ann holder 5",
            "gang ann 0",
            "pace ann 0",
            "where 0 16",
            "happened 15 1000000000000",
            "calls",
            "voids",
            "untell 2",
            "untell 2",
            "where 0 12",
            "calls")))
        self.assertTrue(is_just(told, [
            "0", "1", "2", "fire 3 23", "fire 3 23", "hand ann heater 3", "fire 3 23", "0 2 0 0",
            "3:drawn:0 5:passed:0:thrower 5:drawn:1", "1", "-", "-", "2 1 1 4 1 1 1 2", "2/1 heater closer",
            "hand ann closer 7", "16:closed:0:0", "3", "-", "gone", "refused NoTelling", "hole ann 0", "4"]), told)

    def test_the_yard_alone(self):
        self.assertEqual(answers(YARD), [])
        self.assertEqual(answers("\n\n" + YARD + "\n\n"), [])

    def test_fire(self):
        gang = ("at 0 joins ann 9 1 1 1", "at 5 put ann 2")
        self.assertEqual(told_by(*gang, "where 1 5", "where 1 99")[2:], ["fire 5 never", "hole ann 1"])
        self.assertEqual(answers("\n".join(("yard 2 0 1 0 9 0 0 1:0",) + gang + ("where 1 5", "where 1 8", "where 1 9")))[2:],
                         ["fire 7 7", "fire 7 7", "heap burnt"])
        self.assertEqual(answers("\n".join(("yard 0 0 1 0 9 0 0 1:0",) + ("at 0 joins ann 9 1 1 1", "at 0 put ann 1", "where 0 0")))[2:],
                         ["fire 0 0"])

    def test_heap(self):
        rows = ("at 0 joins ann 1 1 1 1", "at 0 miss ann 0", "at 0 put ann 1", "where 0 3", "happened 2 3", "counts 3")
        self.assertEqual(told_by(*rows)[3:], ["heap missed", "2:missed:0", "0 0 0 1"])
        rows = ("at 0 joins ann 9 1 1 1", "at 0 put ann 1", "where 0 3", "happened 2 3", "counts 3")
        self.assertEqual(answers("\n".join(("yard 0 never 1 0 10 9 0 1:1",) + rows))[2:], ["heap cold", "2:cold:0", "0 0 0 1"])
        self.assertEqual(answers("\n".join(("yard 0 never 1 1 10 9 0 1:1",) + rows))[2:],
                         ["hand ann heater 2", "2:cold:0 2:drawn:0", "0 1 0 0"])

    def test_hands(self):
        told = told_by("at 0 joins ann 1 1 1 1", "at 0 put ann 1", *[f"where 0 {beat}" for beat in range(6)], "happened 0 9")
        self.assertEqual(told[2:8], ["fire 0 never"] + [f"hand ann {hand} {beat}" for beat, hand in enumerate(HANDS)] + ["hole ann 0"])
        self.assertEqual(told[8], "0:drawn:0 1:passed:0:thrower 2:passed:0:holder 3:passed:0:closer 4:closed:0:0")

    def test_holding(self):
        told = told_by("at 0 joins ann 9 1 1 1 4 1 1 1", "at 0 put ann 12", "at 0 rest ann 1", *["holding ann heater 5"] * 2,
                       "holding ann heater 0", "holding ann closer 5", "holding bob closer 5", "holding ann thrower 11")
        self.assertEqual(told[3:], ["0 1 2 3"] * 2 + ["-", "-", "refused NoGang", "0"])

    def test_gang(self):
        told = told_by("at 3 joins ann 1000000 1 1 1", "gang ann 2", "gang ann 3", "at 4 paced ann thrower 7", "at 4 manned ann closer 0",
                       "gang ann 3", "gang ann 4", "gang bob 4")
        self.assertEqual(told, ["0", "refused NoGang", "1000000 1 1 1 1 1 1 1", "1", "2", "1000000 1 1 1 1 1 1 1",
                                "1000000 7 1 1 1 1 1 0", "refused NoGang"])

    def test_pace(self):
        told = told_by("at 0 joins ann 2 1 1 4 1 1 1 2", "pace ann 0", "at 1 paced ann thrower 3", "pace ann 0", "pace ann 1",
                       "at 2 manned ann thrower 4", "pace ann 2", "at 3 manned ann holder 0", "pace ann 3", "pace ann 1000000000000",
                       "pace bob 0", "at 4 manned ann holder 1", "at 4 paced ann holder 9", "at 4 manned ann closer 4",
                       "at 4 paced ann closer 9", "at 4 paced ann heater 6", "at 4 manned ann heater 4", "at 4 manned ann holder 4", "pace ann 4",
                       "at 5 joins bob 1 1 1 1", "pace bob 5")
        self.assertEqual([told[at] for at in (1, 3, 4, 6, 8, 9, 10, 18, 20)],
                         ["2/1 heater closer", "2/1 heater closer", "3/1 thrower", "2/1 heater closer", "none", "none", "refused NoGang",
                          "9/4 holder closer", "1/1 heater thrower holder closer"])

    def test_none_for_each_kind_without_a_hand(self):
        for hand in HANDS:
            self.assertEqual(told_by("at 0 joins ann 2 1 1 4", f"at 0 manned ann {hand} 0", "pace ann 0")[-1], "none")

    def test_voids(self):
        rows = [f"at 0 joins {name} 1 1 1 1" for name in ("a", "b", "c", "d", "e", "f", "g", "a")]
        rows += ["at 0 put a 150", "at 0 put b 1", "at 9 slow a 0 1", "at 9 miss a 0", "at 9 rest zoe 1"]
        told = told_by("voids", *rows, "voids", "calls", "untell 10", "untell 6", "voids", "calls")
        self.assertEqual(told[0], "-")
        self.assertEqual(told[1:14], [str(number) for number in range(13)])
        self.assertEqual(told[14:], ["6:TooMany 7:KnownGang 9:TooMany 10:Begun 11:Begun 12:NoGang", "13", "gone", "gone",
                                     "7:KnownGang 9:TooMany 11:Begun 12:NoGang", "15"])

    def test_untell(self):
        self.assertEqual(told_by("untell 0", "at 0 put ann 1", "untell 1", "untell 0", "untell 0", "at 0 put ann 1", "untell 1000000000000",
                                 "calls"),
                         ["refused NoTelling", "0", "refused NoTelling", "gone", "refused NoTelling", "1", "refused NoTelling", "3"])

    def test_where_there_is_no_piece(self):
        self.assertEqual(told_by("where 0 0", "at 3 joins ann 1 1 1 1", "at 4 put ann 1", "where 0 3", "where 0 4", "where 1 4",
                                 "where 1000000000000 1000000000000"),
                         ["refused NoPiece", "0", "1", "refused NoPiece", "fire 4 never", "refused NoPiece", "refused NoPiece"])

    def test_nothing(self):
        self.assertEqual(told_by("happened 0 1000000000000", "happened 5 5", "happened 9 2", "voids", "calls", "counts 0",
                                 "counts 1000000000000"),
                         ["-", "-", "-", "-", "0", "0 0 0 0", "0 0 0 0"])

    def test_rows_are_done_in_their_order(self):
        self.assertEqual(told_by("at 9 joins ann 1 1 1 1", "gang ann 5", "at 5 joins ann 2 2 2 2", "gang ann 5", "gang ann 9", "voids",
                                 "untell 1", "gang ann 5", "gang ann 9", "voids"),
                         ["0", "refused NoGang", "1", "2 2 2 2 1 1 1 1", "2 2 2 2 1 1 1 1", "0:KnownGang", "gone", "refused NoGang",
                          "1 1 1 1 1 1 1 1", "-"])

    def test_by_its_name(self):
        self.assertEqual(answers(text=YARD + "\ncalls"), ["0"])

    def test_what_is_told_is_the_askers_own(self):
        text = YARD + "\ncalls\nvoids"
        answers(text).clear()
        self.assertEqual([answers(text), answers(text)], [["0", "-"]] * 2)


class BadRowTest(unittest.TestCase):
    ROWS = ("at 12 put ann 10", "at 0 slow bob 7 0", "at 7 miss ann 3", "at 1000000 rest z 1000000000", "at 3 paced ann heater 1",
            "at 3 manned ann closer 0", "at 3 joins ann 2 1 1 4", "at 3 joins ann 2 1 1 4 1 1 1 2", "untell 0", "where 3 1000000000000",
            "counts 10", "holding ann thrower 5", "gang ann 0", "happened 0 99", "voids", "calls", "pace ann 5", "manned ann closer 0",
            "yard 0 never 1 0 100 0 0 1:0", "put ann 1")

    def test_rows_of_each_kind(self):
        for row in self.ROWS[:-3]:
            self.assertTrue(is_plainly_a_row(row), row)
            self.assertIsNone(bad_row(YARD + "\n" + row), row)

    def test_otherwise_in_one_sign(self):
        taken, many = 0, 0
        for row in self.ROWS:
            for other in unlike_by_one_sign(row):
                is_right = other == "" or is_plainly_a_row(other)
                self.assertEqual(bad_row(YARD + "\n" + other), None if is_right else 1, other)
                taken += is_right
                many += 1
        self.assertGreater(taken, 300)
        self.assertGreater(many - taken, 5000)

    def test_yards_otherwise_in_one_sign(self):
        taken = 0
        for row in (YARD, "yard 3 20 1 9 900 600 0 5:10 1:20", "yard 1000000 1000000 4 0 1000000 0 1 1000000:1"):
            self.assertTrue(is_plainly_a_yard(row))
            for other in unlike_by_one_sign(row):
                is_right = is_plainly_a_yard(other)
                self.assertEqual(bad_row("\n" + other + "\nvoids"), None if is_right else 1, other)
                taken += is_right
        self.assertGreater(taken, 100)

    def test_bounds(self):
        for row, is_right in (
                ("where 1000000000000 1000000000000", True), ("where 1000000000001 0", False), ("where 0 1000000000001", False),
                ("counts 1000000000001", False), ("holding ann heater 1000000000001", False), ("gang ann 1000000000001", False),
                ("pace ann 1000000000001", False), ("happened 1000000000001 0", False), ("happened 0 1000000000001", False),
                ("happened 1000000000000 1000000000000", True), ("untell 1000000000000", True), ("untell 1000000000001", False),
                ("at 1000000 put ann 150", True), ("at 1000001 put ann 150", False), ("at 0 put ann 151", False), ("at 0 put ann 0", False),
                ("at 0 rest ann 1000000000", True), ("at 0 rest ann 1000000001", False), ("at 0 slow ann 1000000 1000000", True),
                ("at 0 slow ann 1000001 0", False), ("at 0 slow ann 0 1000001", False), ("at 0 miss ann 1000000", True),
                ("at 0 miss ann 1000001", False), ("at 0 paced ann heater 1000000", True), ("at 0 paced ann heater 1000001", False),
                ("at 0 paced ann heater 0", False), ("at 0 manned ann holder 4", True), ("at 0 manned ann holder 5", False),
                ("at 0 manned ann holder 0", True), ("at 0 joins ann 1 1 1 1 1 1 1 1", False), ("at 0 joins ann 1 1 1 1 1 1 1 4", True),
                ("at 0 joins ann 1 1 1 1 1 1 1 5", False), ("at 0 joins ann 0 1 1 1", False), ("at 0 joins ann 1000001 1 1 1", False),
                ("where " + "9" * 180 + " 0", False), ("where 0 " + "0" * 180, False), ("counts " + "9" * 5000, False)):
            self.assertEqual(bad_row(YARD + "\n" + row), None if is_right else 1, row)
            if len(row) < 1000:
                self.assertEqual(is_plainly_a_row(row), is_right, row)

    def test_bounds_of_yards(self):
        for row, is_right in (
                ("yard 1000000 1000000 4 9 1 1 1 1:1", True), ("yard 1000001 0 4 9 1 1 1 1:1", False), ("yard 0 1000001 4 9 1 1 1 1:1", False),
                ("yard 0 0 5 9 1 1 1 1:1", False), ("yard 0 0 0 9 1 1 1 1:1", False), ("yard 0 0 1 10 1 1 1 1:1", False),
                ("yard 0 0 1 0 1 1 1 1:1", True), ("yard never 0 1 0 1 1 1 1:1", False), ("yard 0 none 1 0 1 1 1 1:1", False),
                ("yard 0 None 1 0 1 1 1 1:1", False), ("yard 0 never 1 0 1 2 1 1:1", False), ("yard 0 never 1 0 1 1 2 1:1", False),
                ("yard 0 never 1 0 1 1 1", False), ("yard 0 never 1 0", False), ("yard", False), ("yard 0 never 1 0 1 1 1" + " 1:1" * 6, True),
                ("yard 0 never 1 0 1 1 1" + " 1:1" * 7, False), ("yard 0 never 1 0 1000001 1 1 1:1", False)):
            self.assertEqual(bad_row(row), None if is_right else 0, row)

    def test_other_words(self):
        for row in ("at", "at 0", "at 0 put", "at 0 put ann", "at 0 put ann 1 1", "at 0 joins", "at 0 joins ann", "at 0 untell 0", "at 0 voids",
                    "at put ann 1", "at 0 0 put ann 1", "at ann put 0 1", "at 0 slow ann 1", "at 0 paced ann 0 1", "at 0 manned ann 0 1",
                    "at 0 paced ann Heater 1", "at 0 paced ann heaters 1", "at 0 manned ann smith 1", "At 0 put ann 1", "voids 0", "calls 0", "VOIDS",
                    "untell", "untell 0 0", "untell -1", "untell x", "where", "where 0", "where 0 0 0", "where ann 0", "counts", "counts 0 0", "counts x",
                    "holding", "holding ann", "holding ann heater", "holding ann 0 0", "holding heater ann 0", "holding ann heater 0 0", "gang", "gang ann",
                    "gang 0", "gang ann 0 0", "gang 0 ann", "happened", "happened 0", "happened 0 0 0", "pace", "pace ann", "pace ann heater 0", "pace 0",
                    "known 0", "standing", "like", "tell 0 put ann 1", "yard_at 0", " ", "  ", "-", " voids", "voids ", "voids  ", "at  0 put ann 1",
                    "at 0  put ann 1", "at 0 put  ann 1", "at 0 put ann  1", "at 0 put ann 1 ", " at 0 put ann 1", "at 00 put ann 1", "at 0 put ann 01",
                    "gang toolongsaid 0", "gang Ann 0", "voids\t", "voids\r", "refused NoGang", "none", "never"):
            self.assertEqual(bad_row(YARD + "\n" + row), 1, row)

    def test_the_first_of_them_all_counted(self):
        self.assertEqual(bad_row("\n\n\nvoids"), 3)
        self.assertEqual(bad_row("voids\n" + YARD), 0)
        self.assertEqual(bad_row("\n" + YARD + "\n\n\nvoids\nx\ny"), 5)
        self.assertEqual(bad_row(YARD + "\n" + YARD), 1)
        self.assertEqual(bad_row("x\n" + YARD + "\ny"), 0)
        self.assertEqual(bad_row(YARD + "\nvoids\n\nat 0 put ann 0\n"), 3)
        # Rows that are refused by the book, not as rows, come to no word where one isn't so written.
        self.assertEqual(bad_row(YARD + "\nuntell 5\nwhere 0 0\ngang ann 0\nvoid"), 4)

    def test_empty_rows_alone(self):
        for many in range(1, 9):
            self.assertEqual(bad_row("\n" * (many - 1)), many)
        self.assertEqual(bad_row(" "), 0)
        self.assertEqual(bad_row("\n \n"), 1)

    def test_the_class_and_its_field(self):
        with self.assertRaises(BadRow) as caught:
            answers("")
        self.assertIs(caught.exception.__class__, BadRow)
        self.assertTrue(is_just(caught.exception.what, 1))


def row_of(beat, deed):
    """The row by which a deed is told."""
    word, name, *parts = deed
    if word == "joins":
        return f"at {beat} joins {gang_text(Gang(name, *parts))}"
    if word in ("paced", "manned"):
        parts[0] = HANDS[parts[0]]
    return " ".join([f"at {beat} {word} {name}"] + [str(part) for part in parts])


def yard_row(metal, soak, burn, mouth, rounds):
    return f"yard {soak} {'never' if burn is None else burn} {mouth} {rounds} {metal_text(metal)}"


def by_blanks(parts):
    return " ".join([str(part) for part in parts]) or "-"


def happening(row):
    behind = [HANDS[row[3]]] if row[1] == "passed" else list(row[3:])
    return ":".join([str(part) for part in [*row[:3], *behind]])


def place_text(place):
    return {"fire": lambda first, last: f"fire {first} {'never' if last is None else last}",
            "hand": lambda name, kind, begun: f"hand {name} {HANDS[kind]} {begun}",
            "hole": lambda name, hole: f"hole {name} {hole}", "heap": lambda word: f"heap {word}"}[place[0]](*place[1:])


def pace_text(yard, name):
    takes, hands = yard.takes_of(name)
    if not all(hands):
        return "none"
    gang = Gang(name, takes, hands)
    return " ".join(["{}/{}".format(*gang.pace())] + [HANDS[kind] for kind in gang.binds()])


def some_question(chance, names):
    """A row, and what it asks of a book."""
    beat, name, kind, piece = chance.randint(0, 90), chance.choice(names), chance.randint(0, 3), chance.randint(0, 9)
    first, number = chance.randint(0, 90), chance.randint(0, 20)

    def untold(book):
        book.untell(number)
        return "gone"
    return chance.choice((
        (f"where {piece} {beat}", lambda book: place_text(book.yard_at(beat).where(piece))),
        (f"counts {beat}", lambda book: by_blanks(book.yard_at(beat).counts())),
        (f"holding {name} {HANDS[kind]} {beat}", lambda book: by_blanks(book.yard_at(beat).holding(name, kind))),
        (f"gang {name} {beat}", lambda book: by_blanks(sum(book.yard_at(beat).takes_of(name), ()))),
        (f"happened {first} {beat}", lambda book: by_blanks([happening(row) for row in book.happened(first, beat)])),
        ("voids", lambda book: by_blanks([f"{number}:{word}" for number, word in book.voids()])),
        ("calls", lambda book: str(book.calls())), (f"untell {number}", untold),
        (f"pace {name} {beat}", lambda book: pace_text(book.yard_at(beat), name))))


def asked(book, question):
    try:
        return question(book)
    except (NoGang, NoPiece, NoTelling) as refusal:
        return "refused " + refusal.__class__.__name__


class BesideABookTest(unittest.TestCase):
    def test_told_the_same(self):
        chance = random.Random(231)
        seen = set()
        for _ in range(250):
            args = some_args(chance)
            book, rows, told = Book(*args), [yard_row(*args)], []
            for beat, deed in some_tellings(chance, 12):
                rows.append(row_of(beat, deed))
                told.append(str(book.tell(beat, deed)))
                for _ in range(chance.choice((0, 0, 1, 3))):
                    row, question = some_question(chance, ("ann", "bob", "cy"))
                    rows.append(row)
                    told.append(asked(book, question))
                    seen.add((row.split()[0], told[-1].split()[0] if told[-1].startswith("refused") else told[-1] == "-"))
                rows += [""] * chance.choice((0, 0, 0, 2))
            self.assertEqual(answers("\n".join(rows)), told, rows)
        self.assertEqual(len(seen), 9 + 5 + 3, seen)

    def test_told_the_same_as_a_yard_in_time(self):
        chance = random.Random(232)
        for _ in range(100):
            args = some_args(chance)
            rows = some_tellings(chance, 12)
            yard, told = Yard(*args), []
            for beat, deed in sorted(rows, key=lambda row: row[0]):
                told += yard.go(beat - yard.now())
                try:
                    do(yard, deed)
                except Exception:
                    continue
            told += yard.go(150 - yard.now())
            text = "\n".join([yard_row(*args)] + [row_of(*row) for row in rows] + ["happened 0 150", "counts 150"]
                             + [f"where {piece} 150" for piece in range(len(yard))])
            found = answers(text)[len(rows):]
            self.assertEqual(found, [by_blanks([happening(row) for row in told]), by_blanks(yard.counts())]
                             + [place_text(yard.where(piece)) for piece in range(len(yard))])


class GreatDeskTest(unittest.TestCase):
    def test_a_hundred_and_twenty_rows_in_short_time(self):
        begun = time.perf_counter()
        names = ("ann", "bob", "cy", "di", "eve", "fay")
        rows = ["yard 3 1000000 1 9 12 10 0 1:1"] + [f"at 0 joins {name} 1 1 1 1" for name in names]
        rows += [f"at 0 put {name} 25" for name in names] + [f"at {1600 - 20 * k} rest {names[k % 6]} 5" for k in range(67)]
        rows += ["happened 0 1000000000000", "happened 500 600", "voids", "counts 1000000000000"]
        rows += [f"where {k} {k * 40}" for k in range(120 - len(rows))]
        self.assertEqual(len(rows), 120)
        told = answers("\n".join(rows))
        self.assertEqual(len(told), 119)
        self.assertGreater(len(told[79].split()), 4000)
        self.assertEqual(told[82], "0 0 0 150")
        self.assertLess(time.perf_counter() - begun, 20)

    def test_far_beats(self):
        self.assertEqual(told_by("at 1000000 joins ann 1000000 1 1 1", "at 1000000 put ann 1", "at 1000000 rest ann 1000000000",
                                 "happened 0 1000000000000", "where 0 1000000000000", "counts 1001000001")[3:],
                         ["1001000000:drawn:0 1002000000:passed:0:thrower 1002000001:passed:0:holder 1002000002:passed:0:closer "
                          "1002000003:closed:0:0", "hole ann 0", "0 1 0 0"])

    def test_long_rows_and_many_rows(self):
        self.assertEqual(bad_row(YARD + "\n" + "a" * 200), 1)
        self.assertEqual(told_by(*["calls"] * 500), ["0"] * 500)


if __name__ == "__main__":
    unittest.main()
