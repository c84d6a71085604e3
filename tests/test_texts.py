import itertools
import re
import string
import unittest

from purseweb.texts import read_numbers, read_web, shown_numbers, shown_web
from purseweb.webs import web_of
from tests.helper import FULL, LONE, LOPSIDED, PAIR, PATH, THICK_PAIR, THIRTY, TRIANGLE, WEBS, refusal

SMALL = "(?:0|[1-9][0-9]?)"
TIMES = "(?:[2-9]|[1-9][0-9])"
WEB_TEXT = re.compile(rf"{SMALL}:(?: {SMALL}-{SMALL}(?:\*{TIMES})?)*")
NUMBER_TEXT = re.compile(r"(?:0|-?[1-9][0-9]{0,29})(?:,(?:0|-?[1-9][0-9]{0,29}))*")
SIGNS = string.printable


def nearly(text):
    """Every text that one sign put in, left out or exchanged makes of this one."""
    for place in range(len(text) + 1):
        for sign in SIGNS:
            yield text[:place] + sign + text[place:]
            yield text[:place] + sign + text[place + 1:]
        yield text[:place] + text[place + 1:]


def outcome(call, *arguments):
    try:
        return call(*arguments)
    except ValueError as error:
        return (type(error).__name__, vars(error))


class WebTextTest(unittest.TestCase):
    def assert_no_text(self, text):
        refusal(self, "NoText", read_web, text)

    def test_written(self):
        self.assertEqual(shown_web(LONE), "1:")
        self.assertEqual(shown_web(PAIR), "2: 0-1")
        self.assertEqual(shown_web(THICK_PAIR), "2: 0-1*9")
        self.assertEqual(shown_web(PATH), "3: 0-1 1-2")
        self.assertEqual(shown_web(TRIANGLE), "3: 0-1 0-2 1-2")
        self.assertEqual(shown_web(LOPSIDED), "4: 0-1 0-2*3 2-3")
        self.assertEqual(shown_web(((0, 2), (2, 0))), "2: 0-1*2")

    def test_written_and_read_back(self):
        for web in WEBS:
            self.assertEqual(read_web(shown_web(web)), web)
        self.assertTrue(shown_web(FULL).startswith("7: 0-1*9 0-2*9 "))

    def test_read_in_any_order(self):
        for words in itertools.permutations(["0-1", "0-2*3", "2-3"]):
            web = read_web("4: " + " ".join(words))
            self.assertEqual(web, LOPSIDED)
            self.assertEqual(shown_web(web), "4: 0-1 0-2*3 2-3")

    def test_not_so_written(self):
        for text in (
            "", " ", ":", "4", "4 ", " 4:", "4 :", "4::", ":4", "4:0-1", "4;", "04:", "00:", "004:", "100:", "+4:",
            "-4:", "4: ", "4:  0-1", "4: 0-1 ", "4: 0-1  0-2", "4:\t0-1", "4:\n", "4: 0-1\n", "\n4: 0-1", "4: 0-1\r",
            "4: 0-1\t0-2", "4: 0-1,0-2", "4: 0", "4: 0-", "4: -1", "4: -", "4: 0--1", "4: 0-1-2", "4: -0-1", "4: 0_1",
            "4: 0-01", "4: 00-1", "4: 01-2", "4: 0-001", "4: 0-100", "4: 100-101", "4: a-b", "4: 0-1*", "4: 0-1*0",
            "4: 0-1*1", "4: 0-1*02", "4: 0-1*00", "4: 0-1*01", "4: 0-1*100", "4: 0-1*-2", "4: 0-1*+2", "4: 0-1**2",
            "4: 0-1*2*3", "4: *2", "4: 0*2-1", "4: 0-1 *2", "4: 0-1* 2", "4: 0 - 1", "4: 0-1*2.0", "4: 0x1-2",
            "4: 0-1:", "four:", "4:\x000-1", "4:\x0b0-1", "1:\n", "1: \n", "1:\t",
        ):
            self.assert_no_text(text)

    def test_writing_comes_ahead_of_all_else(self):
        for text in ("0: 0-1*1", "8: x", "99: ", "2: 1-0 0-1*0", "2: 0-1 0-1 ", "2: 0-1*10 0", "3: 0-1 ", "9:  0-1"):
            self.assert_no_text(text)

    def test_then_no_web(self):
        for text, place in (
            ("0:", None), ("8:", None), ("10:", None), ("99: 0-1", None), ("0: 1-0", None), ("8: 0-0*99", None),
            ("2: 1-0", 0), ("2: 0-0", 0), ("2: 0-2", 0), ("2: 0-99", 0), ("2: 0-1*10", 0), ("2: 0-1*99", 0),
            ("1: 0-1", 0), ("2: 0-1 0-1", 1), ("2: 0-1*2 0-1*3", 1), ("4: 2-3 0-1 3-2 0-0", 2),
            ("4: 2-3 1-2 0-1 0-4", 3), ("4: 2-3 0-1*12 2-3", 1), ("4: 2-3 2-3 0-1 0-4", 1),
        ):
            error = refusal(self, "NoWeb", read_web, text)
            self.assertEqual(error.place, place, text)
            self.assertIs(type(error.place), type(place), text)

    def test_then_apart(self):
        for text, houses in (("2:", (0,)), ("7:", (0,)), ("4: 2-3 0-1", (0, 1)), ("4: 2-3 0-3", (0, 2, 3))):
            error = refusal(self, "Apart", read_web, text)
            self.assertEqual(error.houses, houses, text)

    def test_every_text_that_is_nearly_one(self):
        for good in ("1:", "2: 0-1*3", "4: 0-1 0-2*3 2-3", "12: 3-10*12"):
            for text in nearly(good):
                told = outcome(read_web, text)
                if not WEB_TEXT.fullmatch(text):
                    self.assertEqual(told, ("NoText", {}), repr(text))
                    continue
                many, *words = re.split("[: ]+", text.rstrip(":"))
                numbers = [[int(word) for word in re.split("[-*]", word)] for word in words]
                ties = [(told_tie + [1])[:3] for told_tie in numbers]
                self.assertEqual(told, outcome(web_of, int(many), [tuple(tie) for tie in ties]), repr(text))


class NumbersTextTest(unittest.TestCase):
    GOOD = (
        ((0,), "0"), ((7,), "7"), ((-7,), "-7"), ((10,), "10"), ((0, 0), "0,0"), ((1, -2, 30), "1,-2,30"),
        ((THIRTY,), "9" * 30), ((-THIRTY,), "-" + "9" * 30), ((10 ** 29, 0, -10 ** 29), f"1{'0' * 29},0,-1{'0' * 29}"),
        ((1, 2, 3, 4, 5, 6, 7, 8, 9), "1,2,3,4,5,6,7,8,9"),
    )

    def test_written(self):
        for numbers, text in self.GOOD:
            self.assertEqual(shown_numbers(numbers), text)

    def test_read(self):
        for numbers, text in self.GOOD:
            told = read_numbers(text)
            self.assertEqual(told, numbers)
            self.assertIs(type(told), tuple)
            self.assertEqual({type(number) for number in told}, {int})

    def test_written_and_read_back(self):
        for numbers in itertools.product((-THIRTY, -10, -1, 0, 1, 9, 10, THIRTY), repeat=3):
            self.assertEqual(read_numbers(shown_numbers(numbers)), numbers)

    def test_not_so_written(self):
        for text in (
            "", "-", "-0", "00", "01", "-01", "-00", "007", ",", "1,", ",1", "1,,2", "1,-0", "-0,1", "1,02", "--1",
            "+1", "1+", "1-", "1-2", " 1", "1 ", "1, 2", "1 ,2", "1 2", " ", "1\n", "\n", "1,2\n", "1\n,2", "\t1",
            "1\t", "1\r", "1_000", "1.0", "1e3", "0x1", "a", "1;2", "1:2", "- 1", "1" * 31, "-" + "1" * 31,
            "0" * 30, "0" * 31, "1," + "1" * 31, "1" * 5000, "1,-", "(1,2)", "1\x00", "1\x0b", "1\x1c",
        ):
            refusal(self, "NoText", read_numbers, text)

    def test_every_text_that_is_nearly_one(self):
        for good in ("0", "-7", "10,-20", "-1,0,305", "9" * 30):
            for text in nearly(good):
                if NUMBER_TEXT.fullmatch(text):
                    self.assertEqual(read_numbers(text), tuple(int(word) for word in text.split(",")), repr(text))
                else:
                    self.assertEqual(outcome(read_numbers, text), ("NoText", {}), repr(text))


if __name__ == "__main__":
    unittest.main()
