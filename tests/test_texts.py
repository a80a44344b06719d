"""Texts of gangs and metals [22]."""

import random
import unittest

from hotpass.errors import BadText
from hotpass.gangs import Gang
from hotpass.metals import Metal
from hotpass.texts import gang_in, gang_text, metal_in, metal_text
from tests.walks import is_just, some_gangs

MOST = 10 ** 6
SIGNS = " 0123456789:abzAZ-+._,\n\t%" + "\u0661\u00b2\u00a0"


def unlike_by_one_sign(text):
    """Texts that are otherwise in one sign: one more, one less, one instead."""
    for at in range(len(text) + 1):
        for sign in SIGNS:
            yield text[:at] + sign + text[at:]
            yield text[:at] + sign + text[at + 1:]
        yield text[:at] + text[at + 1:]


def refusal(function, text):
    """Whether a text is refused with BadText of it; what is told where it isn't."""
    try:
        return function(text)
    except BadText as bad:
        assert bad.__class__ is BadText and bad.what == text
        return None


def numbers_of(words, least, most):
    """The numbers that words are, plain figures within bounds; None where one isn't."""
    numbers = []
    for word in words:
        if not word or any(sign not in "0123456789" for sign in word) or (word[0] == "0" and len(word) > 1):
            return None
        numbers.append(int(word))
    return numbers if all(least <= number <= most for number in numbers) else None


def plain_gang(text):
    """The gang of a text, by its words; None where there is none."""
    name, *words = text.split(" ")
    if not 1 <= len(name) <= 8 or any(not "a" <= letter <= "z" for letter in name) or len(words) not in (4, 8):
        return None
    takes, hands = numbers_of(words[:4], 1, MOST), numbers_of(words[4:], 1, 4)
    if takes is None or hands is None or hands == [1, 1, 1, 1]:
        return None
    return Gang(name, takes, hands or None)


def plain_metal(text):
    words = text.split(" ")
    heats = numbers_of(words[:3], 0, MOST)
    losses = [numbers_of(word.split(":"), 0, MOST) for word in words[3:]]
    if heats is None or len(heats) < 3 or max(heats) > heats[0] or not 1 <= len(losses) <= 6 or None in losses:
        return None
    if any(len(pair) != 2 or pair[0] < 1 for pair in losses):
        return None
    return Metal(heats[0], heats[1], [tuple(pair) for pair in losses], heats[2])


def some_metals(many, seed):
    chance = random.Random(seed)
    for _ in range(many):
        full = chance.choice((0, 9, 900, MOST))
        losses = [(chance.choice((1, 7, MOST)), chance.choice((0, 3, MOST))) for _ in range(chance.randint(1, 6))]
        yield Metal(full, chance.randint(0, full), losses, chance.randint(0, full))


class GangTextTest(unittest.TestCase):
    def test_few(self):
        for gang, text in ((Gang("ann", (2, 1, 1, 4)), "ann 2 1 1 4"),
                           (Gang("ann", (2, 1, 1, 4), (1, 1, 1, 1)), "ann 2 1 1 4"),
                           (Gang("ann", (2, 1, 1, 4), (1, 1, 1, 2)), "ann 2 1 1 4 1 1 1 2"),
                           (Gang("b", (MOST, 1, 10, 100), (4, 1, 1, 1)), f"b {MOST} 1 10 100 4 1 1 1"),
                           (Gang("abcdefgh", (1, 1, 1, 1), (4, 3, 2, 1)), "abcdefgh 1 1 1 1 4 3 2 1")):
            self.assertTrue(is_just(gang_text(gang), text))
            self.assertEqual(gang_in(text), gang)
            self.assertIs(gang_in(text).__class__, Gang)
        self.assertEqual(gang_in(text="ann 2 1 1 4"), Gang("ann", (2, 1, 1, 4)))
        self.assertEqual(gang_text(gang=Gang("ann", (2, 1, 1, 4))), "ann 2 1 1 4")

    def test_there_and_back(self):
        for gang in some_gangs(300, 221, most=MOST):
            self.assertEqual(gang_in(gang_text(gang)), gang)
            self.assertEqual(gang_text(gang), gang_text(gang_in(gang_text(gang))))

    def test_refused(self):
        for text in ("", " ", "ann", "ann 2 1 1", "ann 2 1 1 4 1", "ann 2 1 1 4 1 1 1", "ann 2 1 1 4 1 1 1 1",
                     "ann 2 1 1 4 1 1 1 2 1", "ann  2 1 1 4", " ann 2 1 1 4", "ann 2 1 1 4 ", "ann 2 1 1  4", "ann 02 1 1 4",
                     "ann 0 1 1 4", "ann +2 1 1 4", "ann -2 1 1 4", "ann 2.0 1 1 4", "ann 1_0 1 1 4", f"ann {MOST + 1} 1 1 4",
                     "ann 2 1 1 4 1 1 1 5", "ann 2 1 1 4 1 1 1 0", "ann 2 1 1 4 1 1 1 02", "Ann 2 1 1 4", "ann1 2 1 1 4",
                     "abcdefghi 2 1 1 4", "2 1 1 4", "2 1 1 4 1", "ann\n2 1 1 4", "ann 2 1 1 4\n", "ann\t2 1 1 4", "ann,2,1,1,4",
                     "ann x 1 1 4", "ann 2 1 1 four", "ann " + "9" * 5000 + " 1 1 4", "ann 2 1 1 " + "0" * 5000, "a" * 9999,
                     "ann 2 1 1 \u0664", "ann 2 1 1 \u00b2", "\u00e4nn 2 1 1 4", "None 2 1 1 4", "ann 2 1 1 4 None"):
            with self.assertRaises(BadText) as caught:
                gang_in(text)
            self.assertIs(caught.exception.__class__, BadText)
            self.assertEqual(caught.exception.what, text)

    def test_otherwise_in_one_sign(self):
        taken, many = 0, 0
        for text in ("ann 2 1 1 4", "abcdefgh 10 1 1000000 4 1 1 1 2", "b 1 1 1 1 2 2 3 4", "z 9 10 99 100"):
            for other in unlike_by_one_sign(text):
                self.assertEqual(refusal(gang_in, other), plain_gang(other), other)
                taken += plain_gang(other) is not None
                many += 1
        self.assertGreater(taken, 100)
        self.assertGreater(many - taken, 1000)


class MetalTextTest(unittest.TestCase):
    def test_few(self):
        for metal, text in ((Metal(900, 600, [(5, 10), (1, 20)]), "900 600 0 5:10 1:20"),
                            (Metal(900, 600, [(5, 10)], 20), "900 600 20 5:10"),
                            (Metal(0, 0, [(1, 0)]), "0 0 0 1:0"),
                            (Metal(MOST, MOST, [(MOST, MOST)] * 6, MOST), " ".join([str(MOST)] * 3 + [f"{MOST}:{MOST}"] * 6))):
            self.assertTrue(is_just(metal_text(metal), text))
            self.assertEqual(metal_in(text), metal)
            self.assertIs(metal_in(text).__class__, Metal)
        self.assertEqual(metal_in(text="9 6 1 5:1"), Metal(9, 6, [(5, 1)], 1))
        self.assertEqual(metal_text(metal=Metal(9, 6, [(5, 1)], 1)), "9 6 1 5:1")

    def test_there_and_back(self):
        for metal in some_metals(300, 222):
            self.assertEqual(metal_in(metal_text(metal)), metal)

    def test_refused(self):
        for text in ("", " ", "900", "900 600", "900 600 0", "900 600 0 ", "900 600 5:10", "900 600 0 5", "900 600 0 5:", "900 600 0 :5",
                     "900 600 0 :", "900 600 0 5:10:1", "900 600 0 5 :10", "900 600 0 5: 10", "900 600 0  5:10", " 900 600 0 5:10",
                     "900 600 0 5:10 ", "0900 600 0 5:10", "900 600 00 5:10", "900 600 0 05:10", "900 600 0 5:010", "900 901 0 5:10",
                     "900 600 901 5:10", "900 600 0 0:10", f"{MOST + 1} 600 0 5:10", f"900 600 0 {MOST + 1}:10", f"900 600 0 5:{MOST + 1}",
                     "900 600 0" + " 5:10" * 7, "-900 600 0 5:10", "900 600 0 5:-10", "900 600 0 5;10", "900 600 0 (5,10)", "900 600 0 5:10\n",
                     "900 600 0 5:10\n1:20", "900\t600 0 5:10", "900 600 0 5:" + "1" * 5000, "9" * 5000 + " 600 0 5:10", "900 600 0 \u0665:10",
                     "900 600 0 5:10 1", "900 600 0 1 5:10", "a 600 0 5:10"):
            with self.assertRaises(BadText) as caught:
                metal_in(text)
            self.assertIs(caught.exception.__class__, BadText)
            self.assertEqual(caught.exception.what, text)

    def test_otherwise_in_one_sign(self):
        taken, many = 0, 0
        for text in ("900 600 0 5:10 1:20", "10 9 10 1:0", "0 0 0 1000000:1", "7 7 7" + " 1:2" * 6):
            for other in unlike_by_one_sign(text):
                self.assertEqual(refusal(metal_in, other), plain_metal(other), other)
                taken += plain_metal(other) is not None
                many += 1
        self.assertGreater(taken, 100)
        self.assertGreater(many - taken, 1000)


if __name__ == "__main__":
    unittest.main()
