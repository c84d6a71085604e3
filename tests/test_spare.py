import unittest

from purseweb.purses import turned
from purseweb.spare import spare
from purseweb.webs import loops
from tests.helper import (
    FEW_TIES, LONE, PAIR, THIRTY, THIRTY_TIES, TRIANGLE, each_two_tied, few_by_chance, is_free, led,
    new_each_time, one_of_each_class, purses_without_debt, some_purses, with_total, woven,
)


def order_purse_of(web, order):
    ahead = {house: order[:place] for place, house in enumerate(order)}
    return tuple(sum(web[house][other] for other in ahead[house]) - 1 for house in range(len(web)))


def less(one, other):
    return tuple(a - b for a, b in zip(one, other))


def with_one_more(purse, house):
    return purse[:house] + (purse[house] + 1,) + purse[house + 1:]


class SpareTest(unittest.TestCase):
    def assert_shown(self, web, purse):
        """That the script and the order show what cannot be spared; told is the number."""
        told = spare(web, purse)
        amid = (web, purse, told)
        number, script, order = told
        self.assertEqual([type(part) for part in (told, number, script, order)], [tuple, int, tuple, list], amid)
        self.assertEqual({type(often) for often in script}, {int}, amid)
        self.assertEqual((len(script), min(script)), (len(web), 0), amid)
        self.assertEqual(sorted(order), list(range(len(web))), amid)
        taking = tuple(max(0, more) for more in less(led(web, purse, script), order_purse_of(web, order)))
        self.assertEqual(sum(taking), number + 1, amid)
        return number

    def assert_spared(self, web, purse):
        """That all takings of the told number leave the purse free, and some taking of one more doesn't."""
        number = self.assert_shown(web, purse)
        amid = (web, purse, number)
        self.assertGreaterEqual(number, -1, amid)
        self.assertEqual(number == -1, not is_free(web, purse), amid)
        if number >= 0:
            for taking in purses_without_debt(len(web), number):
                self.assertTrue(is_free(web, less(purse, taking)), (amid, taking))
        more = purses_without_debt(len(web), number + 1)
        self.assertTrue(any(not is_free(web, less(purse, taking)) for taking in more), amid)
        return number

    def test_at_most_five_houses_and_eight_ties(self):
        for web in FEW_TIES:
            self.assertLessEqual(len(web), 5, web)
            self.assertLessEqual(sum(map(sum, web)), 16, web)

    def test_numbers(self):
        for web, purse, number in (
            (LONE, (-1,), -1), (LONE, (0,), 0), (LONE, (8,), 8), (LONE, (-THIRTY,), -1),
            (PAIR, (0, -1), -1), (PAIR, (0, 0), 0), (PAIR, (THIRTY, -THIRTY), 0), (PAIR, (-5, 9), 4),
            (TRIANGLE, (0, 0, 0), 0), (TRIANGLE, (1, -1, 0), -1), (TRIANGLE, (1, 0, 0), 0), (TRIANGLE, (1, 1, 0), 1),
            (TRIANGLE, (3, -1, 0), 1), (TRIANGLE, (8, 0, 0), 7),
            (woven(2, (0, 1, 3)), (1, 0), 0), (woven(2, (0, 1, 3)), (1, 1), 1), (woven(2, (0, 1, 3)), (2, 0), 0),
            (woven(2, (0, 1, 3)), (-1, 3), 0), (woven(2, (0, 1, 8)), (6, 6), 6),
            (each_two_tied(4), (1, 1, 1, 1), 2), (each_two_tied(4), (4, 0, 0, 0), 2),
            (each_two_tied(4), (3, 1, 0, 0), 1), (each_two_tied(4), (0, 1, 1, 1), 1),
            (each_two_tied(4), (2, 0, 0, 0), 0), (each_two_tied(4), (1, -1, 0, 0), -1),
        ):
            self.assertEqual(self.assert_spared(web, purse), number, (web, purse))

    def test_every_class_of_purses_on_webs_of_up_to_four_houses(self):
        numbers = []
        for web in FEW_TIES:
            if len(web) < 5:
                for total in range(-2, 9):
                    numbers += [self.assert_spared(web, purse) for purse in one_of_each_class(web, total)]
        self.assertGreater(numbers.count(-1), 100)
        self.assertGreater(numbers.count(0), 100)
        self.assertGreater(numbers.count(1), 100)

    def test_some_classes_of_purses_on_webs_of_five_houses(self):
        for web in FEW_TIES:
            if len(web) == 5:
                for total in range(-1, 9):
                    for purse in one_of_each_class(web, total)[total % 3::3]:
                        self.assert_spared(web, purse)

    def test_coins_and_debts_of_thirty_figures(self):
        for web in FEW_TIES:
            for total in range(-1, 9):
                for purse in some_purses(len(web)):
                    self.assert_spared(web, with_total(purse, total))

    def test_small_and_of_thirty_figures_by_chance(self):
        for web, purse in few_by_chance(51, 500):
            self.assert_spared(web, purse)

    def test_told_alike_of_what_comes_by_lending(self):
        for web in FEW_TIES:
            for total in range(-1, 9):
                purse = with_total(tuple(range(len(web))), total)
                number = self.assert_shown(web, purse)
                for script in some_purses(len(web)):
                    self.assertEqual(self.assert_shown(web, led(web, purse, script)), number, (web, purse, script))

    def test_less_what_the_turned_purse_can_spare(self):
        for web in FEW_TIES:
            for total in range(-2, 9):
                for purse in one_of_each_class(web, total):
                    difference = self.assert_shown(web, purse) - self.assert_shown(web, turned(web, purse))
                    self.assertEqual(difference, total + 1 - loops(web), (web, purse))

    def test_a_total_below_0_spares_nothing(self):
        for web in FEW_TIES:
            for total in (-1, -2, -7, -THIRTY):
                for purse in some_purses(len(web)):
                    self.assertEqual(self.assert_shown(web, with_total(purse, total)), -1)

    def test_a_total_above_2_loops_less_2_spares_all_but_the_loops(self):
        many = 0
        for web in FEW_TIES:
            for total in range(max(0, 2 * loops(web) - 1), 9):
                for purse in some_purses(len(web)):
                    self.assertEqual(self.assert_shown(web, with_total(purse, total)), total - loops(web))
                    many += 1
        self.assertGreater(many, 100)

    def test_at_2_loops_less_2_one_class_spares_one_more(self):
        for web in FEW_TIES:
            total = 2 * loops(web) - 2
            if 0 <= total <= 8:
                numbers = [self.assert_spared(web, purse) for purse in one_of_each_class(web, total)]
                self.assertEqual(numbers.count(loops(web) - 1), 1, web)
                self.assertEqual(numbers.count(loops(web) - 2), len(numbers) - 1, web)

    def test_one_coin_more_spares_as_much_or_one_more(self):
        for web in FEW_TIES:
            for total in range(-2, 8):
                for purse in one_of_each_class(web, total)[::2]:
                    number = self.assert_shown(web, purse)
                    for house in range(len(web)):
                        more = self.assert_shown(web, with_one_more(purse, house))
                        self.assertIn(more, (number, number + 1), (web, purse, house))

    def test_somewhat_beyond(self):
        for web in (each_two_tied(5), woven(6, (0, 1, 2), (1, 2, 2), (2, 3, 2), (3, 4, 2), (4, 5, 2), (0, 5, 1))):
            for total in (0, 2, loops(web) - 1, loops(web), 10):
                self.assert_spared(web, with_total((0, 1, -1, 2, 0, 1)[:len(web)], total))
        for web in FEW_TIES + THIRTY_TIES:
            self.assertEqual(self.assert_shown(web, with_total((1,) * len(web), THIRTY)), THIRTY - loops(web))

    def test_the_order_is_a_new_list_each_time(self):
        for web in FEW_TIES:
            for total in (-1, 0, loops(web), 8):
                new_each_time(self, spare, web, with_total((0,) * len(web), total))


if __name__ == "__main__":
    unittest.main()
