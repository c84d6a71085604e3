"""Purses of thirty figures take no longer a time than small ones."""

import itertools
import time
import unittest

from purseweb.alike import alike
from purseweb.clear import cleared
from purseweb.settle import settle
from tests.helper import THIRTY, THIRTY_TIES, led

SMALL_PART = 0.1


def seconds(call, *arguments):
    """The least of some tries: what else the machine does is not counted."""
    tries = []
    for nth in range(5):
        start = time.perf_counter()
        call(*arguments)
        tries.append(time.perf_counter() - start)
    return min(tries)


def great_purses():
    for signs in itertools.islice(itertools.product((-1, 1), repeat=7), 0, None, 9):
        yield tuple(sign * (THIRTY - house) for house, sign in enumerate(signs))


class TimesTest(unittest.TestCase):
    def test_seven_houses_and_thirty_ties(self):
        for web in THIRTY_TIES:
            self.assertEqual((len(web), sum(map(sum, web))), (7, 60))

    def test_settled(self):
        for web in THIRTY_TIES:
            for purse in great_purses():
                for base in (0, 3, 6):
                    self.assertLess(seconds(settle, web, purse, base), SMALL_PART, (web, purse, base))

    def test_cleared(self):
        for web in THIRTY_TIES:
            for purse in great_purses():
                for total in (-1, 0, sum(purse)):
                    evened = (purse[0] + total - sum(purse),) + purse[1:]
                    self.assertLess(seconds(cleared, web, evened), SMALL_PART, (web, evened))

    def test_held_against_one_another(self):
        for web in THIRTY_TIES:
            for purse in great_purses():
                reached = led(web, purse, purse[::-1])
                unlike = (purse[0] + 1,) + purse[1:-1] + (purse[-1] - 1,)
                for other in (reached, unlike, (0,) * 7):
                    self.assertLess(seconds(alike, web, purse, other), SMALL_PART, (web, purse, other))


if __name__ == "__main__":
    unittest.main()
