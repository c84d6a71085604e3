import itertools
import unittest

from purseweb.fires import is_settled
from purseweb.settle import settle
from tests.helper import (
    LONE, LOPSIDED, PAIR, SMALL_WEBS, THICK_PAIR, THIRTY, THIRTY_TIES, TRIANGLE, WEBS, by_chance, fire_of, led,
    new_each_time, some_purses,
)


def at_base(purse, base, more):
    return purse[:base] + (purse[base] + more,) + purse[base + 1:]


class SettleTest(unittest.TestCase):
    def assert_settled(self, web, purse, base):
        told = settle(web, purse, base)
        amid = (web, purse, base, told)
        script, settled, fire = told
        self.assertEqual([type(part) for part in (told, script, settled, fire)], [tuple, tuple, tuple, list], amid)
        self.assertEqual({type(number) for number in script + settled}, {int}, amid)
        self.assertEqual(min(script), 0, amid)
        self.assertEqual(settled, led(web, purse, script), amid)
        self.assertTrue(all(coins >= 0 for house, coins in enumerate(settled) if house != base), amid)
        self.assertEqual(sorted(fire), list(range(len(web))), amid)
        self.assertEqual(fire, fire_of(web, settled, base), amid)
        return told

    def test_settle(self):
        for web, purse, base, told in (
            (LONE, (5,), 0, ((0,), (5,), [0])),
            (LONE, (-THIRTY,), 0, ((0,), (-THIRTY,), [0])),
            (PAIR, (3, -2), 0, ((2, 0), (1, 0), [0, 1])),
            (PAIR, (3, -2), 1, ((3, 0), (0, 1), [1, 0])),
            (PAIR, (0, THIRTY), 0, ((0, THIRTY), (THIRTY, 0), [0, 1])),
            (PAIR, (0, -THIRTY), 0, ((THIRTY, 0), (-THIRTY, 0), [0, 1])),
            (THICK_PAIR, (0, 20), 0, ((0, 2), (18, 2), [0, 1])),
            (THICK_PAIR, (0, -20), 0, ((3, 0), (-27, 7), [0, 1])),
            (TRIANGLE, (0, 2, 0), 0, ((0, 1, 0), (1, 0, 1), [0, 1, 2])),
            (TRIANGLE, (2, -1, -1), 0, ((1, 0, 0), (0, 0, 0), [0, 1, 2])),
            (TRIANGLE, (-1, 1, 0), 0, ((0, 0, 0), (-1, 1, 0), [0, 2, 1])),
            (LOPSIDED, (1, 1, 1, 1), 3, ((1, 2, 1, 0), (2, 0, 0, 2), [3, 2, 0, 1])),
        ):
            self.assertEqual(settle(web, purse, base), told)

    def test_every_small_purse_at_every_base(self):
        for web in SMALL_WEBS:
            for purse in itertools.product((-4, -1, 0, 1, 5), repeat=len(web)):
                for base in range(len(web)):
                    self.assert_settled(web, purse, base)

    def test_debts_and_thirty_figures_at_every_base(self):
        for web in WEBS + THIRTY_TIES:
            for purse in some_purses(len(web)):
                for base in range(len(web)):
                    self.assert_settled(web, purse, base)

    def test_each_house_with_thirty_figures_either_way(self):
        for web in THIRTY_TIES:
            for signs in itertools.product((-1, 1), repeat=len(web)):
                purse = tuple(sign * THIRTY for sign in signs)
                self.assert_settled(web, purse, signs.count(1) % len(web))

    def test_webs_by_chance(self):
        for web, one, other, script in by_chance(21, 300):
            for base in range(len(web)):
                self.assert_settled(web, one, base)
                self.assert_settled(web, other, base)

    def test_somewhat_beyond_thirty_figures(self):
        for web in THIRTY_TIES:
            self.assert_settled(web, (10 ** 40, -10 ** 45, 10 ** 50, 3, -10 ** 40, 0, 10 ** 42), 2)

    def test_a_settled_purse_is_settled_by_a_script_of_noughts(self):
        many = 0
        for web in SMALL_WEBS:
            for base in range(len(web)):
                for purse in itertools.product(*[range(sum(row) + 1) for row in web]):
                    if is_settled(web, purse, base):
                        for more in (0, -1, THIRTY, -THIRTY):
                            settled = at_base(purse, base, more)
                            told = ((0,) * len(web), settled, fire_of(web, settled, base))
                            self.assertEqual(settle(web, settled, base), told)
                            many += 1
        self.assertGreater(many, 100)

    def test_what_is_settled_stays_when_it_is_settled_again(self):
        for web, one, other, script in by_chance(22, 200):
            for base in range(len(web)):
                told = settle(web, one, base)
                self.assertEqual(settle(web, told[1], base), ((0,) * len(web), told[1], told[2]))

    def test_coins_at_the_base_change_the_settled_purse_there_alone(self):
        for web, one, other, script in by_chance(23, 200):
            for base in range(len(web)):
                told = settle(web, one, base)
                for more in (1, -1, 17, -17, THIRTY, -THIRTY):
                    changed = (told[0], at_base(told[1], base, more), told[2])
                    self.assertEqual(settle(web, at_base(one, base, more), base), changed)

    def test_what_comes_of_a_purse_by_lending_is_settled_to_the_same_purse(self):
        for web, one, other, script in by_chance(24, 300):
            for base in range(len(web)):
                self.assertEqual(settle(web, led(web, one, script), base)[1:], settle(web, one, base)[1:])

    def test_the_fire_is_a_new_list_each_time(self):
        for web in WEBS:
            for base in range(len(web)):
                new_each_time(self, settle, web, (3,) * len(web), base)


if __name__ == "__main__":
    unittest.main()
