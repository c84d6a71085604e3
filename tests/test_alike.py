import itertools
import unittest

from purseweb.alike import alike
from purseweb.settle import settle
from tests.helper import (
    FULL, LONE, LOPSIDED, PAIR, PATH, SMALL_WEBS, THICK_PAIR, THIRTY, THIRTY_TIES, TRIANGLE, WEBS, by_chance, led,
    script_between, some_purses, with_total,
)


def lowered(script):
    return tuple(often - min(script) for often in script)


def turned_about(script):
    return tuple(-often for often in script)


class AlikeTest(unittest.TestCase):
    def assert_unlike(self, web, one, other):
        self.assertIsNone(alike(web, one, other), (web, one, other))
        self.assertIsNone(alike(web, other, one), (web, one, other))

    def assert_leads(self, web, purse, script):
        reached = led(web, purse, script)
        told = alike(web, purse, reached)
        self.assertEqual(told, lowered(script), (web, purse, script))
        self.assertIs(type(told), tuple)
        self.assertEqual(alike(web, reached, purse), lowered(turned_about(script)), (web, purse, script))

    def test_alike(self):
        self.assertEqual(alike(LONE, (3,), (3,)), (0,))
        self.assertEqual(alike(PAIR, (3, 0), (1, 2)), (2, 0))
        self.assertEqual(alike(PAIR, (1, 2), (3, 0)), (0, 2))
        self.assertEqual(alike(PAIR, (THIRTY, -THIRTY), (0, 0)), (THIRTY, 0))
        self.assertEqual(alike(THICK_PAIR, (9, 0), (0, 9)), (1, 0))
        self.assertEqual(alike(PATH, (1, 2, 3), (2, -1, 5)), (1, 2, 0))
        self.assertEqual(alike(TRIANGLE, (3, 0, 0), (0, 3, 0)), (2, 0, 1))
        self.assertEqual(alike(LOPSIDED, (1, 1, 1, 1), (-3, 2, 4, 1)), (1, 0, 0, 0))

    def test_the_script_that_was_run_is_told(self):
        for web in SMALL_WEBS:
            for script in itertools.product((-2, 0, 1), repeat=len(web)):
                for purse in some_purses(len(web)):
                    self.assert_leads(web, purse, script)

    def test_scripts_and_purses_of_thirty_figures(self):
        for web in WEBS + THIRTY_TIES:
            for purse in some_purses(len(web)):
                for script in some_purses(len(web)):
                    self.assert_leads(web, purse, script)

    def test_webs_by_chance(self):
        for web, one, other, script in by_chance(31, 500):
            self.assert_leads(web, one, script)
            self.assert_leads(web, other, script)

    def test_a_purse_and_itself(self):
        for web in WEBS + THIRTY_TIES:
            for purse in some_purses(len(web)):
                self.assertEqual(alike(web, purse, purse), (0,) * len(web))

    def test_unlike_totals(self):
        for web in WEBS + THIRTY_TIES:
            for purse in some_purses(len(web)):
                for more in (1, -1, 10 ** 29):
                    self.assert_unlike(web, purse, (purse[0] + more,) + purse[1:])
                    self.assert_unlike(web, purse, purse[:-1] + (purse[-1] + more,))

    def test_one_total_and_not_alike(self):
        self.assert_unlike(THICK_PAIR, (1, 0), (0, 1))
        self.assert_unlike(THICK_PAIR, (8, 0), (0, 8))
        self.assert_unlike(THICK_PAIR, (THIRTY, 0), (THIRTY - 10, 10))
        self.assert_unlike(TRIANGLE, (1, 0, 0), (0, 1, 0))
        self.assert_unlike(TRIANGLE, (1, -1, 0), (0, 0, 0))
        self.assert_unlike(LOPSIDED, (0, 0, 1, 0), (1, 0, 0, 0))
        self.assert_unlike(FULL, (1, -1, 0, 0, 0, 0, 0), (0,) * 7)

    def test_each_two_small_purses(self):
        for web in SMALL_WEBS:
            purses = list(itertools.product((-1, 0, 2) if len(web) > 3 else (-3, 0, 1, 6), repeat=len(web)))
            for one, other in itertools.product(purses, repeat=2):
                self.assertEqual(alike(web, one, other), script_between(web, one, other), (web, one, other))

    def test_purses_of_one_total_by_chance(self):
        for web, one, other, script in by_chance(32, 500):
            other = with_total(other, sum(one))
            self.assertEqual(alike(web, one, other), script_between(web, one, other), (web, one, other))

    def test_just_where_the_settled_purses_are_equal(self):
        for web in SMALL_WEBS:
            purses = list(itertools.product((-1, 2) if len(web) > 3 else (-1, 0, 2), repeat=len(web)))
            for base in range(len(web)):
                settled = {purse: settle(web, purse, base)[1] for purse in purses}
                for one, other in itertools.product(purses, repeat=2):
                    self.assertEqual(alike(web, one, other) is not None, settled[one] == settled[other])


if __name__ == "__main__":
    unittest.main()
