import itertools
import unittest

from purseweb.fires import burnt, is_settled
from tests.helper import (
    FULL, LONE, LOPSIDED, PAIR, PATH, SMALL_WEBS, THICK_PAIR, THIRTY, TRIANGLE, WEBS, by_chance, fire_of,
    new_each_time, some_purses,
)


def small_purses(web):
    """Each purse with, at each house, a debt, no coins, and coins up to one more than would keep it from burning."""
    return itertools.product(*[sorted({-2, -1, 0, 1, 2, sum(row) - 1, sum(row), sum(row) + 1}) for row in web])


def is_settled_by_groups(web, purse, base):
    """Not by fire: no group without the base can lend at once without debt."""
    others = [house for house in range(len(web)) if house != base]
    groups = [group for size in range(1, len(web)) for group in itertools.combinations(others, size)]
    can_lend = [
        all(purse[house] >= sum(web[house]) - sum(web[house][other] for other in group) for house in group)
        for group in groups
    ]
    return all(purse[house] >= 0 for house in others) and not any(can_lend)


class BurntTest(unittest.TestCase):
    def test_a_house_by_itself(self):
        for coins in (-THIRTY, -1, 0, 1, THIRTY):
            self.assertEqual(burnt(LONE, (coins,), 0), [0])

    def test_the_base_burns_first_whatever_it_has(self):
        for web in WEBS:
            for purse in some_purses(len(web)):
                for base in range(len(web)):
                    for coins in (-THIRTY, -1, 0, 1, THIRTY):
                        told = burnt(web, purse[:base] + (coins,) + purse[base + 1:], base)
                        self.assertEqual(told[0], base)
                        self.assertEqual(told, burnt(web, purse, base))

    def test_a_house_burns_with_fewer_coins_than_ties_to_burnt_ones(self):
        self.assertEqual(burnt(PAIR, (0, 0), 0), [0, 1])
        self.assertEqual(burnt(PAIR, (0, 1), 0), [0])
        self.assertEqual(burnt(PAIR, (0, 1), 1), [1, 0])
        self.assertEqual(burnt(THICK_PAIR, (0, 8), 0), [0, 1])
        self.assertEqual(burnt(THICK_PAIR, (0, 9), 0), [0])
        self.assertEqual(burnt(TRIANGLE, (0, 1, 0), 0), [0, 2, 1])
        self.assertEqual(burnt(TRIANGLE, (0, 0, 1), 0), [0, 1, 2])
        self.assertEqual(burnt(TRIANGLE, (0, 0, 2), 0), [0, 1])

    def test_each_time_the_least_number_burns(self):
        self.assertEqual(burnt(TRIANGLE, (0, 0, 0), 1), [1, 0, 2])
        self.assertEqual(burnt(PATH, (0, 0, 0), 2), [2, 1, 0])
        # House 0 can burn only behind house 1, but then goes ahead of house 3, which could all the time.
        web = ((0, 1, 0, 0), (1, 0, 1, 0), (0, 1, 0, 1), (0, 0, 1, 0))
        self.assertEqual(burnt(web, (0, 0, 0, 0), 2), [2, 1, 0, 3])
        self.assertEqual(burnt(web, (0, 1, 0, 0), 2), [2, 3])
        self.assertEqual(burnt(FULL, (0,) * 7, 4), [4, 0, 1, 2, 3, 5, 6])
        self.assertEqual(burnt(FULL, (53, 44, 35, 26, 17, 8, 0), 6), [6, 5, 4, 3, 2, 1, 0])

    def test_fires_that_stop_early(self):
        self.assertEqual(burnt(PATH, (0, 1, 0), 0), [0])
        self.assertEqual(burnt(PATH, (0, 0, 1), 0), [0, 1])
        self.assertEqual(burnt(PATH, (1, 9, 1), 1), [1])
        self.assertEqual(burnt(LOPSIDED, (0, 0, 3, 0), 0), [0, 1])
        self.assertEqual(burnt(LOPSIDED, (0, 1, 2, 1), 0), [0, 2])
        self.assertEqual(burnt(FULL, (0,) + (9,) * 6, 0), [0])

    def test_a_house_in_debt_burns_with_ties_to_burnt_ones_or_without(self):
        self.assertEqual(burnt(PATH, (0, 5, -1), 0), [0, 2])
        self.assertEqual(burnt(PATH, (0, 5, 0), 0), [0])
        self.assertEqual(burnt(PATH, (0, 1, -1), 0), [0, 2, 1])
        self.assertEqual(burnt(PATH, (0, -1, 0), 0), [0, 1, 2])
        self.assertEqual(burnt(PATH, (-1, 2, 0), 2), [2, 0])
        self.assertEqual(burnt(LOPSIDED, (9, -1, 9, 0), 3), [3, 1])

    def test_numbers_of_thirty_figures(self):
        self.assertEqual(burnt(PATH, (0, THIRTY, -THIRTY), 0), [0, 2])
        self.assertEqual(burnt(PATH, (THIRTY, -THIRTY, THIRTY), 0), [0, 1])
        self.assertEqual(burnt(PATH, (-THIRTY, -THIRTY, -THIRTY), 1), [1, 0, 2])

    def test_every_small_purse_at_every_base(self):
        for web in SMALL_WEBS:
            for purse in small_purses(web):
                for base in range(len(web)):
                    self.assertEqual(burnt(web, purse, base), fire_of(web, purse, base), (web, purse, base))

    def test_greater_webs_at_every_base(self):
        for web, one, other, script in by_chance(11, 300):
            for base in range(len(web)):
                for purse in (one, other):
                    self.assertEqual(burnt(web, purse, base), fire_of(web, purse, base), (web, purse, base))

    def test_a_new_list_each_time(self):
        for web in WEBS:
            for base in range(len(web)):
                new_each_time(self, burnt, web, (0,) * len(web), base)


class IsSettledTest(unittest.TestCase):
    def test_settled_with_coins_none_or_debt_at_the_base(self):
        for coins in (THIRTY, 5, 1, 0, -1, -5, -THIRTY):
            self.assertIs(is_settled(LONE, (coins,), 0), True)
            self.assertIs(is_settled(PAIR, (coins, 0), 0), True)
            self.assertIs(is_settled(PAIR, (0, coins), 1), True)
            self.assertIs(is_settled(THICK_PAIR, (8, coins), 1), True)
            self.assertIs(is_settled(TRIANGLE, (1, coins, 0), 1), True)
            self.assertIs(is_settled(LOPSIDED, (2, 0, 0, coins), 3), True)

    def test_a_house_in_debt_that_is_not_the_base(self):
        for debt in (-1, -2, -THIRTY):
            self.assertIs(is_settled(PAIR, (0, debt), 0), False)
            self.assertIs(is_settled(PAIR, (debt, 0), 1), False)
            self.assertIs(is_settled(TRIANGLE, (0, 0, debt), 0), False)
            self.assertIs(is_settled(PATH, (debt, debt, 0), 0), False)
            self.assertIs(is_settled(LOPSIDED, (0, debt, 0, 0), 3), False)

    def test_a_house_that_does_not_burn(self):
        for coins in (-1, 0, 1, THIRTY):
            self.assertIs(is_settled(PAIR, (coins, 1), 0), False)
            self.assertIs(is_settled(THICK_PAIR, (coins, 9), 0), False)
            self.assertIs(is_settled(TRIANGLE, (coins, 1, 1), 0), False)
            self.assertIs(is_settled(PATH, (coins, 0, 1), 0), False)
            self.assertIs(is_settled(LOPSIDED, (3, 0, 0, coins), 3), False)

    def test_just_where_no_group_can_lend(self):
        for web in SMALL_WEBS:
            for purse in small_purses(web):
                for base in range(len(web)):
                    told = is_settled(web, purse, base)
                    self.assertIs(told, is_settled_by_groups(web, purse, base), (web, purse, base))

    def test_greater_webs(self):
        for web, one, other, script in by_chance(12, 300):
            for base in range(len(web)):
                for purse in (one, tuple(map(abs, other)), (0,) * len(web)):
                    told = is_settled(web, purse, base)
                    self.assertIs(told, is_settled_by_groups(web, purse, base), (web, purse, base))


if __name__ == "__main__":
    unittest.main()
