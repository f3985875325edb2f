"""Point [11]: the texts of piles and rows."""

import re
import unittest

from loosemarks.errors import NoPile, NoText
from loosemarks.texts import pile_text, read_pile, read_row
from tests import samples
from tests.samples import check_refused

TEXTS = {
    "none": (), "0": (0,), "1": (1,), "9": (9,), "10": (10,), "99": (99,), "0 0": (0, 0), "1 0": (0, 1),
    "99 98": (98, 99), "10 9": (9, 10), "5 3 3 0": (0, 3, 3, 5), "99 50 50 50 2 0 0": (0, 0, 2, 50, 50, 50, 99),
    "20 12 2 0": (0, 2, 12, 20), "11 1": (1, 11), "7 7 7 7": (7, 7, 7, 7),
}
WORD = "(0|[1-9][0-9]?)"
SIGNS = [chr(code) for code in range(32, 127)] + ["\n", "\r", "\r\n"]


def all_piles():
    return samples.small_piles() + samples.great_piles() + samples.rows() + samples.piles_that_are_no_rows()


def written(text):
    """Tell whether the text is that of a pile."""
    if text == "none":
        return True
    if not re.fullmatch(f"{WORD}( {WORD})*", text):
        return False
    places = [int(word) for word in text.split(" ")]
    return places == sorted(places, reverse=True) and len(places) <= 240


def apart(text):
    """Tell whether the text, which is that of a pile, is that of a row."""
    places = [] if text == "none" else [int(word) for word in text.split(" ")]
    return all(high - low > 1 for high, low in zip(places, places[1:]))


def altered(text):
    """Texts that differ from the one by one sign more, fewer or other, or by a word."""
    texts = [text[:at] + text[at + 1:] for at in range(len(text))]
    for sign in SIGNS:
        texts += [text[:at] + sign + text[at:] for at in range(len(text) + 1)]
        texts += [text[:at] + sign + text[at + 1:] for at in range(len(text))]
    words = text.split(" ")
    for at in range(len(words)):
        texts.append(" ".join(words[:at] + words[at + 1:]))
        texts.append(" ".join(words[:at + 1] + words[at:]))
        for other in range(at):
            turned = list(words)
            turned[at], turned[other] = words[other], words[at]
            texts.append(" ".join(turned))
    return texts + [" ".join(words[::-1]), text + text, text + " " + text]


def texts_of_no_pile():
    return [
        "", " ", "  ", "\n", "None", "NONE", "none ", " none", "none\n", "none\r\n", "nonenone", "none none", "non",
        "none 0", "0 none", "()", "[]", "(0,)", "[5]", "0,", "5,3", "5, 3", "5;3", "5-3", "5  3", "5   3", " 5 3",
        "5 3 ", "5 3\n", "5 3\r", "5 3\r\n", "\n5 3", "5\n3", "5\r\n3", "+5", "5 +3", "-5", "-1", "-0", "+0", "5 -3",
        "05", "00", "005", "5 03", "5 00", "0 5", "3 5", "0 1", "9 10", "5 3 4", "5 5 6", "100", "100 5", "101",
        "240", "1000", "99 100", "5.0", "5.", ".5", "5e1", "1e1", "0x5", "0b1", "1_0", "5_", "_5", "five", "a", "o",
        "5 a", "5 x 3", "True", "False", "'5'", '"5"', "5 none 3", "9" * 5000, "-" + "9" * 5000, "0" * 5000,
    ]


class TestPileText(unittest.TestCase):
    def test_few_marks(self):
        for text, pile in TEXTS.items():
            self.assertEqual(pile_text(pile), text)

    def test_each_place(self):
        for place in range(100):
            self.assertEqual(pile_text((place,)), str(place))
            self.assertEqual(pile_text((place, place)), f"{place} {place}")

    def test_from_the_greatest_on_with_a_blank_between(self):
        for pile in all_piles():
            if pile:
                self.assertEqual([int(word) for word in pile_text(pile).split(" ")], sorted(pile, reverse=True))
            self.assertIs(written(pile_text(pile)), True)

    def test_the_empty_pile(self):
        self.assertEqual(pile_text(()), "none")

    def test_240_marks(self):
        self.assertEqual(pile_text((7,) * 240), " ".join(["7"] * 240))
        check_refused(self, NoPile, pile_text, (7,) * 241)

    def test_the_answer_is_a_string(self):
        for pile in ((), (0,), (4, 4)):
            self.assertIs(type(pile_text(pile)), str)

    def test_no_piles(self):
        for thing in samples.no_piles():
            check_refused(self, NoPile, pile_text, thing)


class ReadingCase(unittest.TestCase):
    def check_read_back(self, read, piles):
        for pile in piles:
            told = read(pile_text(pile))
            self.assertEqual(told, pile)
            self.assertIs(type(told), tuple)
            self.assertTrue(all(type(place) is int for place in told))

    def check_no_texts(self, read):
        for text in texts_of_no_pile():
            self.assertIs(written(text), False)
            check_refused(self, NoText, read, text)


class TestReadPile(ReadingCase):
    def test_few_marks(self):
        for text, pile in TEXTS.items():
            self.assertEqual(read_pile(text), pile)

    def test_what_is_written_is_read(self):
        self.check_read_back(read_pile, all_piles())

    def test_texts_of_no_pile(self):
        self.check_no_texts(read_pile)

    def test_altered_texts(self):
        for base in list(TEXTS) + ["98 3", "60 40 20 0"]:
            for text in altered(base):
                if written(text):
                    self.assertEqual(pile_text(read_pile(text)), text)
                else:
                    check_refused(self, NoText, read_pile, text)

    def test_240_marks(self):
        for word in ("0", "7", "99"):
            self.assertEqual(read_pile(" ".join([word] * 240)), (int(word),) * 240)
            check_refused(self, NoText, read_pile, " ".join([word] * 241))
        check_refused(self, NoText, read_pile, " ".join(["5"] * 5000))

    def test_what_is_no_text(self):
        for thing in (None, 5, 0, True, [], ["5"], (), (5,), {}, {"none"}, b"5", b"none", object(), samples.Prickly()):
            check_refused(self, NoText, read_pile, thing)


class TestReadRow(ReadingCase):
    def test_few_marks(self):
        for text, row in (("none", ()), ("0", (0,)), ("2 0", (0, 2)), ("99 97 5", (5, 97, 99)), ("10 8", (8, 10))):
            self.assertEqual(read_row(text), row)

    def test_what_is_written_is_read(self):
        self.check_read_back(read_row, samples.rows() + [samples.GREATEST_ROW] + samples.low_rows())

    def test_piles_that_are_no_rows(self):
        for pile in samples.piles_that_are_no_rows():
            check_refused(self, NoText, read_row, pile_text(pile))
            self.assertEqual(read_pile(pile_text(pile)), pile)
        for text in ("0 0", "1 0", "2 1", "99 98", "99 99", "5 3 2", "5 3 3", "5 5 3"):
            check_refused(self, NoText, read_row, text)

    def test_texts_of_no_pile(self):
        self.check_no_texts(read_row)

    def test_altered_texts(self):
        for base in ("none", "0", "2 0", "99 97 5", "10 8", "60 40 20 0"):
            for text in altered(base):
                if written(text) and apart(text):
                    self.assertEqual(pile_text(read_row(text)), text)
                else:
                    check_refused(self, NoText, read_row, text)

    def test_what_is_no_text(self):
        for thing in (None, 5, True, [], ["5"], (), (5,), {}, b"5", object(), samples.Prickly()):
            check_refused(self, NoText, read_row, thing)


class TestNothingIsChanged(unittest.TestCase):
    def test_things_handed_in_stay_as_they_were(self):
        for thing in ([2, 0], (0, [2]), {3: [1]}, ["5"]):
            before = repr(thing)
            check_refused(self, NoPile, pile_text, thing)
            check_refused(self, NoText, read_pile, thing)
            check_refused(self, NoText, read_row, thing)
            self.assertEqual(repr(thing), before)

    def test_asking_again_tells_the_same(self):
        for text in TEXTS:
            self.assertEqual(read_pile(text), read_pile(text))
            self.assertEqual(pile_text(read_pile(text)), pile_text(read_pile(text)))


if __name__ == "__main__":
    unittest.main()
