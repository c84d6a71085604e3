import itertools
import unittest

from purseweb.clear import cleared
from purseweb.webs import loops
from tests.helper import (
    LONE, LOPSIDED, PAIR, PATH, SMALL_WEBS, THICK_PAIR, THIRTY, THIRTY_TIES, TRIANGLE, WEBS, by_chance, is_free, led,
    new_each_time, some_purses, with_total,
)


def ties_from(web, house, others):
    return sum(web[other][house] for other in others)


class ClearedTest(unittest.TestCase):
    def word(self, web, purse):
        """The told word, when all that is told beside it holds."""
        told = cleared(web, purse)
        amid = (web, purse, told)
        self.assertIs(type(told), tuple, amid)
        word, script, third = told
        self.assertIs(type(script), tuple, amid)
        self.assertEqual(min(script), 0, amid)
        self.assertEqual(len(script), len(web), amid)
        reached = led(web, purse, script)
        if word == "free":
            self.assertIs(type(third), tuple, amid)
            self.assertEqual(third, reached, amid)
            self.assertGreaterEqual(min(third), 0, amid)
        else:
            self.assertEqual(word, "never", amid)
            self.assertIs(type(third), list, amid)
            self.assertEqual(sorted(third), list(range(len(web))), amid)
            for place, house in enumerate(third):
                self.assertLessEqual(reached[house], ties_from(web, house, third[:place]) - 1, amid)
        return word

    def test_a_house_by_itself(self):
        self.assertEqual(cleared(LONE, (0,)), ("free", (0,), (0,)))
        self.assertEqual(cleared(LONE, (THIRTY,)), ("free", (0,), (THIRTY,)))
        self.assertEqual(cleared(LONE, (-1,)), ("never", (0,), [0]))
        self.assertEqual(cleared(LONE, (-THIRTY,)), ("never", (0,), [0]))

    def test_free(self):
        for web, purse in (
            (PAIR, (3, -2)), (PAIR, (-2, 2)), (PAIR, (THIRTY, -THIRTY)), (PAIR, (-THIRTY, THIRTY)),
            (THICK_PAIR, (9, -9)), (THICK_PAIR, (9, -1)), (THICK_PAIR, (-1, 10)), (PATH, (-1, 2, -1)),
            (TRIANGLE, (3, -1, -1)), (TRIANGLE, (2, -1, -1)), (TRIANGLE, (0, 0, 0)), (LOPSIDED, (-3, 2, 4, 1)),
            (LOPSIDED, (-5, 0, 0, 7)),
        ):
            self.assertEqual(self.word(web, purse), "free", (web, purse))

    def test_never(self):
        for web, purse in (
            (PAIR, (0, -1)), (PAIR, (THIRTY, -THIRTY - 1)), (PAIR, (-THIRTY, THIRTY - 1)), (THICK_PAIR, (8, -1)),
            (THICK_PAIR, (-1, 1)), (THICK_PAIR, (-10, 17)), (PATH, (0, 0, -1)), (TRIANGLE, (1, -1, 0)),
            (TRIANGLE, (-1, 0, 1)), (LOPSIDED, (-1, 0, 2, 0)), (LOPSIDED, (1, 0, -1, 0)),
        ):
            self.assertEqual(self.word(web, purse), "never", (web, purse))

    def test_every_small_purse(self):
        words = []
        for web in SMALL_WEBS:
            for purse in itertools.product((-2, -1, 0, 1, 3), repeat=len(web)):
                words.append(self.word(web, purse))
                self.assertEqual(words[-1] == "free", is_free(web, purse), (web, purse))
        self.assertGreater(words.count("free"), 100)
        self.assertGreater(words.count("never"), 100)

    def test_thick_ties_with_every_total_up_to_the_loops(self):
        for coins in range(-20, 21):
            for total in range(-1, 10):
                purse = (coins, total - coins)
                self.assertEqual(self.word(THICK_PAIR, purse) == "free", is_free(THICK_PAIR, purse), purse)

    def test_thirty_figures(self):
        words = []
        for web in WEBS + THIRTY_TIES:
            for purse in some_purses(len(web)):
                for total in (-THIRTY, -1, 0, 1, 3, loops(web) // 2, loops(web) - 1):
                    words.append(self.word(web, with_total(purse, total)))
        self.assertGreater(words.count("free"), 20)
        self.assertGreater(words.count("never"), 20)

    def test_small_and_of_thirty_figures_by_chance(self):
        words = []
        for web, one, other, script in by_chance(41, 700):
            for total in (-1, 0, loops(web) // 2, loops(web) - 1):
                words.append(self.word(web, with_total(one, total)))
            words.append(self.word(web, other))
        self.assertGreater(words.count("free"), 300)
        self.assertGreater(words.count("never"), 300)

    def test_a_total_below_0_is_never_free(self):
        for web, one, other, script in by_chance(42, 300):
            for total in (-1, -2, -THIRTY):
                self.assertEqual(self.word(web, with_total(one, total)), "never")

    def test_a_total_of_the_loops_or_more_is_free(self):
        for web, one, other, script in by_chance(43, 300):
            for total in (loops(web), loops(web) + 1, THIRTY):
                self.assertEqual(self.word(web, with_total(one, total)), "free")

    def test_a_purse_without_debt_is_free(self):
        for web, one, other, script in by_chance(44, 300):
            self.assertEqual(self.word(web, tuple(map(abs, one))), "free")

    def test_told_alike_of_what_comes_by_lending(self):
        for web, one, other, script in by_chance(45, 300):
            for total in (0, loops(web) // 2, loops(web) - 1):
                purse = with_total(one, total)
                self.assertEqual(self.word(web, led(web, purse, script)), self.word(web, purse))

    def test_the_order_is_a_new_list_each_time(self):
        for web in WEBS:
            purse = (-1,) * len(web)
            self.assertEqual(cleared(web, purse)[0], "never")
            new_each_time(self, cleared, web, purse)


if __name__ == "__main__":
    unittest.main()
