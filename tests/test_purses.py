import itertools
import unittest

from purseweb.purses import least, lent, minus, order_purse, plus, run, total, turned
from tests.helper import (
    FULL, LONE, LOPSIDED, PAIR, PATH, SMALL_WEBS, THICK_PAIR, THIRTY, TRIANGLE, WEBS, refusal, some_purses,
)


def lent_by_hand(web, purse, house):
    coins = list(purse)
    for other, times in enumerate(web[house]):
        for tie in range(times):
            coins[house] -= 1
            coins[other] += 1
    return tuple(coins)


class LendingTest(unittest.TestCase):
    def test_total(self):
        for purse, number in (((0,), 0), ((5,), 5), ((-5,), -5), ((1, -2, 4), 3), ((THIRTY, -THIRTY, -1), -1)):
            self.assertEqual(total(purse), number)
        self.assertEqual(total((THIRTY, THIRTY)), 2 * THIRTY)

    def test_lent(self):
        self.assertEqual(lent(LONE, (3,), 0), (3,))
        self.assertEqual(lent(PAIR, (3, 0), 0), (2, 1))
        self.assertEqual(lent(PAIR, (0, 0), 1), (1, -1))
        self.assertEqual(lent(THICK_PAIR, (3, 0), 0), (-6, 9))
        self.assertEqual(lent(PATH, (0, 0, 0), 1), (1, -2, 1))
        self.assertEqual(lent(PATH, (0, 0, 0), 2), (0, 1, -1))
        self.assertEqual(lent(LOPSIDED, (1, 1, 1, 1), 0), (-3, 2, 4, 1))
        self.assertEqual(lent(LOPSIDED, (1, 1, 1, 1), 3), (1, 1, 2, 0))
        self.assertEqual(lent(FULL, (0,) * 7, 6), (9, 9, 9, 9, 9, 9, -54))

    def test_lent_coin_by_coin(self):
        for web in WEBS:
            for purse in some_purses(len(web)):
                for house in range(len(web)):
                    told = lent(web, purse, house)
                    self.assertEqual(told, lent_by_hand(web, purse, house))
                    self.assertIs(type(told), tuple)

    def test_run(self):
        self.assertEqual(run(LONE, (3,), (8,)), (3,))
        self.assertEqual(run(PAIR, (3, 0), (2, 0)), (1, 2))
        self.assertEqual(run(PAIR, (3, 0), (-2, 0)), (5, -2))
        self.assertEqual(run(PATH, (1, 2, 3), (1, 2, 0)), (2, -1, 5))
        self.assertEqual(run(LOPSIDED, (0, 0, 0, 0), (1, 0, -1, 2)), (-7, 1, 9, -3))

    def test_a_script_of_noughts_changes_nothing(self):
        for web in WEBS:
            for purse in some_purses(len(web)):
                self.assertEqual(run(web, purse, (0,) * len(web)), purse)

    def test_lending_again_and_again_in_any_order_is_running_a_script(self):
        for web in SMALL_WEBS:
            script = (2, 0, 3, 1)[:len(web)]
            lendings = [house for house, often in enumerate(script) for time in range(often)]
            for purse in some_purses(len(web)):
                for order in sorted(set(itertools.permutations(lendings))):
                    reached = purse
                    for house in order:
                        reached = lent(web, reached, house)
                    self.assertEqual(run(web, purse, script), reached)

    def test_borrowing_is_lending_turned_about(self):
        for web in WEBS:
            for purse in some_purses(len(web)):
                for script in some_purses(len(web)):
                    opposite = tuple(-often for often in script)
                    self.assertEqual(run(web, run(web, purse, script), opposite), purse)

    def test_scripts_of_thirty_figures(self):
        self.assertEqual(run(PAIR, (0, 0), (THIRTY, 0)), (-THIRTY, THIRTY))
        self.assertEqual(run(PAIR, (0, 0), (-THIRTY, THIRTY)), (2 * THIRTY, -2 * THIRTY))
        self.assertEqual(run(PATH, (1, 2, 3), (THIRTY, THIRTY, THIRTY - 1)), (1, 1, 4))
        self.assertEqual(run(FULL, (0,) * 7, (0,) * 6 + (THIRTY,)), (9 * THIRTY,) * 6 + (-54 * THIRTY,))

    def test_the_total_stays(self):
        for web in WEBS:
            for purse in some_purses(len(web)):
                for script in some_purses(len(web)):
                    self.assertEqual(total(run(web, purse, script)), sum(purse))


class LeastTest(unittest.TestCase):
    def test_least(self):
        for script, form in (
            ((0,), (0,)), ((7,), (0,)), ((-7,), (0,)), ((0, 0), (0, 0)), ((3, 5, 4), (0, 2, 1)), ((-3, 5), (0, 8)),
            ((-1, -2, -1), (1, 0, 1)), ((0, 4), (0, 4)), ((THIRTY, -THIRTY), (2 * THIRTY, 0)),
            ((THIRTY, THIRTY - 1), (1, 0)),
        ):
            told = least(script)
            self.assertEqual(told, form)
            self.assertIs(type(told), tuple)

    def test_scripts_that_differ_by_one_number_everywhere_do_the_same(self):
        for web in WEBS:
            for script in some_purses(len(web)):
                for more in (-THIRTY, -3, 1, THIRTY):
                    other = tuple(often + more for often in script)
                    self.assertEqual(least(other), least(script))
                    for purse in some_purses(len(web)):
                        self.assertEqual(run(web, purse, other), run(web, purse, script))
                        self.assertEqual(run(web, purse, least(script)), run(web, purse, script))

    def test_scripts_do_the_same_just_where_their_least_forms_are_equal(self):
        for web in (LONE, PAIR, THICK_PAIR, PATH, TRIANGLE):
            scripts = list(itertools.product(range(-1, 3), repeat=len(web)))
            for one, other in itertools.product(scripts, repeat=2):
                purse = tuple(range(len(web)))
                does_the_same = run(web, purse, one) == run(web, purse, other)
                self.assertEqual(does_the_same, least(one) == least(other), (web, one, other))


class TogetherTest(unittest.TestCase):
    def test_plus_and_minus(self):
        self.assertEqual(plus((1,), (2,)), (3,))
        self.assertEqual(minus((1,), (2,)), (-1,))
        self.assertEqual(plus((1, -2, 3), (4, 5, -6)), (5, 3, -3))
        self.assertEqual(minus((1, -2, 3), (4, 5, -6)), (-3, -7, 9))
        self.assertEqual(plus((THIRTY, -THIRTY), (THIRTY, 1)), (2 * THIRTY, 1 - THIRTY))
        self.assertEqual(minus((THIRTY, -THIRTY), (THIRTY, 1)), (0, -1 - THIRTY))
        for told in (plus((1, 2), (3, 4)), minus((1, 2), (3, 4))):
            self.assertIs(type(told), tuple)

    def test_what_is_put_together_is_taken_away_again(self):
        for one in some_purses(4):
            for other in some_purses(4):
                self.assertEqual(minus(plus(one, other), other), one)
                self.assertEqual(plus(minus(one, other), other), one)

    def test_turned(self):
        self.assertEqual(turned(LONE, (0,)), (-2,))
        self.assertEqual(turned(LONE, (5,)), (-7,))
        self.assertEqual(turned(PAIR, (0, 3)), (-1, -4))
        self.assertEqual(turned(THICK_PAIR, (0, 9)), (7, -2))
        self.assertEqual(turned(PATH, (1, 1, -1)), (-2, -1, 0))
        self.assertEqual(turned(LOPSIDED, (0, 0, 0, 0)), (2, -1, 2, -1))
        self.assertEqual(turned(PAIR, (THIRTY, -THIRTY)), (-1 - THIRTY, THIRTY - 1))

    def test_turned_twice(self):
        for web in WEBS:
            for purse in some_purses(len(web)):
                once = turned(web, purse)
                self.assertIs(type(once), tuple)
                self.assertEqual(turned(web, once), purse)


class OrderTest(unittest.TestCase):
    def test_order_purse(self):
        self.assertEqual(order_purse(LONE, [0]), (-1,))
        self.assertEqual(order_purse(PAIR, [0, 1]), (-1, 0))
        self.assertEqual(order_purse(THICK_PAIR, [1, 0]), (8, -1))
        self.assertEqual(order_purse(PATH, [0, 2, 1]), (-1, 1, -1))
        self.assertEqual(order_purse(TRIANGLE, [2, 0, 1]), (0, 1, -1))
        self.assertEqual(order_purse(LOPSIDED, [0, 1, 2, 3]), (-1, 0, 2, 0))
        self.assertEqual(order_purse(LOPSIDED, [3, 2, 1, 0]), (3, -1, 0, -1))
        self.assertEqual(order_purse(FULL, [6, 5, 4, 3, 2, 1, 0]), (53, 44, 35, 26, 17, 8, -1))

    def test_each_order(self):
        for web in SMALL_WEBS:
            ties = sum(map(sum, web)) // 2
            for houses in itertools.permutations(range(len(web))):
                order = list(houses)
                told = order_purse(web, order)
                self.assertEqual(order, list(houses))
                self.assertIs(type(told), tuple)
                self.assertEqual(sum(told), ties - len(web))
                for house in houses:
                    ahead = [web[other][house] for other in houses if houses.index(other) < houses.index(house)]
                    self.assertEqual(told[house], sum(ahead) - 1)

    def test_lists_that_are_no_orders(self):
        for web, orders in (
            (LONE, ([], [1], [-1], [0, 0], [0, 1], [10 ** 30])),
            (PAIR, ([], [0], [1], [0, 0], [1, 1], [0, 2], [1, 2], [-1, 0], [0, -1], [0, 1, 2], [0, 1, 0], [1, 0, 1])),
            (LOPSIDED, (
                [], [0, 1, 2], [3, 2, 1], [0, 1, 2, 2], [0, 0, 1, 2, 3], [1, 2, 3, 4], [0, 1, 2, 4], [-1, 0, 1, 2],
                [3, 2, 1, -4], [0, 1, 2, 3, 4], [4, 3, 2, 1, 0], [0, 1, 2, 3, -1], [0, 3, 3, 0], [3, 3, 0, 0],
            )),
            (FULL, ([0, 1, 2, 3, 4, 5], [0, 1, 2, 3, 4, 5, 7], [0, 1, 2, 3, 4, 5, 6, 7], [0] * 7, [3] * 7)),
        ):
            for order in orders:
                refusal(self, "NoOrder", order_purse, web, order)


if __name__ == "__main__":
    unittest.main()
