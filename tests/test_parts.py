import itertools
import math
import unittest

from purseweb.alike import alike
from purseweb.parts import parts, place_of, round_of
from purseweb.trees import tree_count
from tests.helper import (
    FEW_TIES, FULL, GREAT_ROUND, LONE, LOPSIDED, PAIR, PATH, SMALL_WEBS, THICK_PAIR, THIRTY, THIRTY_TIES, TRIANGLE,
    WEBS, by_chance, class_of, each_two_tied, led, one_of_each_class, refusal, ring, script_between, some_purses, unit,
    with_total, woven,
)

# Several ties between two houses, on one to seven houses, so that the parts are many.
THICK_WEBS = (
    woven(3, (0, 1, 2), (0, 2, 2)), woven(3, (0, 1, 4), (0, 2, 6)), woven(4, (0, 1, 2), (0, 2, 3), (0, 3, 4)),
    woven(4, (0, 1, 6), (0, 2, 9), (0, 3, 4)), woven(4, (0, 1, 6), (1, 2, 9), (2, 3, 4)),
    woven(4, (0, 1, 2), (0, 2, 2), (0, 3, 2), (1, 2, 2), (1, 3, 2), (2, 3, 2)),
    woven(5, (0, 4, 6), (1, 4, 4), (2, 4, 9), (3, 4, 6)),
    woven(6, (0, 1, 3), (1, 2, 9), (2, 3, 6), (3, 4, 2), (4, 5, 8)),
    woven(7, (0, 1, 6), (1, 2, 4), (2, 3, 9), (3, 4, 2), (4, 5, 3), (5, 6, 5)),
    woven(7, *[(0, house, house + 2) for house in range(1, 7)]),
)

SOME_WEBS = WEBS + THIRTY_TIES + FEW_TIES + THICK_WEBS + (GREAT_ROUND,)


def product(one, other):
    columns = list(zip(*other))
    return tuple(tuple(sum(a * b for a, b in zip(row, column)) for column in columns) for row in one)


def square_apart(web):
    rows = range(1, len(web))
    return tuple(tuple(sum(web[a]) if a == b else -web[a][b] for b in rows) for a in rows)


def diagonal(numbers):
    return tuple(tuple(number * one for one in row) for number, row in zip(numbers, unit(len(numbers))))


def minor(square, rows, columns):
    """The determinant of these rows and columns, by each order of the columns."""
    told = 0
    for order in itertools.permutations(range(len(rows))):
        turns = sum(a > b for a, b in itertools.combinations(order, 2))
        told += (-1) ** turns * math.prod(square[row][columns[at]] for row, at in zip(rows, order))
    return told


def row_by_minors(square):
    """What ROW is, by the common divisors of the determinants of each size."""
    divisors = [1]
    for size in range(1, len(square) + 1):
        choices = list(itertools.combinations(range(len(square)), size))
        divisors.append(math.gcd(*[minor(square, rows, columns) for rows in choices for columns in choices]))
    return tuple(after // ahead for ahead, after in zip(divisors, divisors[1:]))


def primes_of(number):
    divisors = [divisor for divisor in range(2, number + 1) if number % divisor == 0]
    return [divisor for divisor in divisors if all(divisor % by for by in range(2, divisor))]


def taken(purse, often):
    return tuple(coins * often for coins in purse)


class PartsTest(unittest.TestCase):
    def assert_parts(self, web):
        told = parts(web)
        size = len(web) - 1
        self.assertIs(type(told), tuple, web)
        self.assertEqual([type(part) for part in told], [tuple] * 5, web)
        left, back, right, forth, row = told
        for square in (left, back, right, forth):
            self.assertEqual([(type(line), len(line)) for line in square], [(tuple, size)] * size, web)
            self.assertLessEqual({type(number) for line in square for number in line}, {int}, web)
        for one, other in ((left, back), (back, left), (right, forth), (forth, right)):
            self.assertEqual(product(one, other), unit(size), (web, told))
        self.assertEqual([type(number) for number in row], [int] * size, web)
        self.assertEqual(product(product(left, square_apart(web)), right), diagonal(row), (web, told))
        self.assertTrue(all(number > 0 for number in row), (web, row))
        self.assertTrue(all(after % ahead == 0 for ahead, after in zip(row, row[1:])), (web, row))
        self.assertEqual(math.prod(row), tree_count(web), (web, row))
        return row

    def test_rows(self):
        for web, row in (
            (LONE, ()), (PAIR, (1,)), (THICK_PAIR, (9,)), (PATH, (1, 1)), (TRIANGLE, (1, 3)), (LOPSIDED, (1, 1, 3)),
            (FULL, (9, 63, 63, 63, 63, 63)), (ring(7), (1, 1, 1, 1, 1, 7)), (each_two_tied(5), (1, 5, 5, 5)),
            (woven(3, (0, 1, 2), (0, 2, 2)), (2, 2)), (woven(3, (0, 1, 4), (0, 2, 6)), (2, 12)),
            (woven(4, (0, 1, 2), (0, 2, 3), (0, 3, 4)), (1, 2, 12)),
            (woven(4, (0, 1, 6), (0, 2, 9), (0, 3, 4)), (1, 6, 36)),
            (woven(4, (0, 1, 6), (1, 2, 9), (2, 3, 4)), (1, 6, 36)), (GREAT_ROUND, (1, 1, 1, 1, 1, 131345)),
        ):
            self.assertEqual(self.assert_parts(web), row, web)

    def test_of_one_house_all_are_without_numbers(self):
        self.assertEqual(parts(LONE), ((), (), (), (), ()))

    def test_webs_of_one_to_seven_houses(self):
        self.assertEqual({len(web) for web in SOME_WEBS}, {1, 2, 3, 4, 5, 6, 7})
        for web in SOME_WEBS:
            self.assert_parts(web)

    def test_webs_by_chance(self):
        for web, one, other, script in by_chance(101, 400):
            self.assert_parts(web)

    def test_rows_by_determinants(self):
        for web in FEW_TIES + THICK_WEBS[:7]:
            self.assertEqual(parts(web)[4], row_by_minors(square_apart(web)), web)

    def test_the_same_each_time(self):
        for web in SOME_WEBS:
            told = parts(web)
            parts(FULL)
            self.assertEqual(parts(web), told)
            self.assertEqual(parts(tuple(tuple(list(row)) for row in web)), told)


class PlaceOfTest(unittest.TestCase):
    def assert_place(self, web, purse):
        place = place_of(web, purse)
        left, back, right, forth, row = parts(web)
        amid = (web, purse, place)
        self.assertIs(type(place), tuple, amid)
        self.assertEqual([type(number) for number in place], [int] * len(web), amid)
        self.assertEqual(place[0], sum(purse), amid)
        sums = [sum(a * b for a, b in zip(line, purse[1:])) for line in left]
        self.assertEqual(place[1:], tuple(number % by for number, by in zip(sums, row)), amid)
        self.assertTrue(all(0 <= number < by for number, by in zip(place[1:], row)), amid)
        return place

    def test_places(self):
        self.assertEqual(place_of(LONE, (5,)), (5,))
        self.assertEqual(place_of(LONE, (-THIRTY,)), (-THIRTY,))
        self.assertEqual(place_of(PAIR, (5, -3)), (2, 0))
        self.assertEqual(place_of(PATH, (5, -3, 9)), (11, 0, 0))
        self.assertEqual(place_of(THICK_PAIR, (0, 9 * THIRTY)), (9 * THIRTY, 0))

    def test_all_sorts_of_purses(self):
        for web in SOME_WEBS:
            for purse in some_purses(len(web)):
                self.assert_place(web, purse)

    def test_noughts_and_what_lending_makes_of_them(self):
        for web in SOME_WEBS:
            for script in some_purses(len(web)):
                self.assertEqual(place_of(web, led(web, (0,) * len(web), script)), (0,) * len(web), (web, script))

    def test_a_place_for_each_class(self):
        for web in FEW_TIES + (THICK_PAIR,) + THICK_WEBS[:3]:
            for total in (-2, 0, 5):
                purses = one_of_each_class(web, total)
                self.assertEqual(len(purses), tree_count(web), web)
                self.assertEqual(len({self.assert_place(web, purse) for purse in purses}), len(purses), web)

    def test_alike_purses_have_one_place(self):
        for web, one, other, script in by_chance(102, 300):
            place = self.assert_place(web, one)
            self.assertEqual(place_of(web, led(web, one, script)), place, (web, one, script))

    def test_unlike_purses_have_two(self):
        unlike = 0
        for web, one, other, script in by_chance(103, 400):
            evened = with_total(other, sum(one))
            for purse in (other, evened):
                same = place_of(web, one) == place_of(web, purse)
                self.assertEqual(same, alike(web, one, purse) is not None, (web, one, purse))
                self.assertEqual(same, script_between(web, one, purse) is not None, (web, one, purse))
            unlike += alike(web, one, evened) is None
        self.assertGreater(unlike, 200)

    def test_one_coin_moved_in_purses_of_thirty_figures(self):
        for web in (THICK_PAIR, TRIANGLE, FULL, GREAT_ROUND) + THIRTY_TIES:
            purse = tuple(THIRTY - house for house in range(len(web)))
            for a, b in itertools.permutations(range(len(web)), 2):
                moved = tuple(coins + (house == a) - (house == b) for house, coins in enumerate(purse))
                same = place_of(web, purse) == place_of(web, moved)
                self.assertEqual(same, class_of(web, purse) == class_of(web, moved), (web, a, b))


class RoundOfTest(unittest.TestCase):
    def assert_round(self, web, purse):
        """That it leads to noughts, and that no divisor of it does: so no lesser number either."""
        often = round_of(web, purse)
        amid = (web, purse, often)
        noughts = (0,) * len(web)
        self.assertIs(type(often), int, amid)
        self.assertGreaterEqual(often, 1, amid)
        self.assertEqual(tree_count(web) % often, 0, amid)
        self.assertIsNotNone(script_between(web, taken(purse, often), noughts), amid)
        for prime in primes_of(often):
            self.assertIsNone(script_between(web, taken(purse, often // prime), noughts), amid)
        return often

    def test_rounds(self):
        for web, purse, often in (
            (LONE, (0,), 1), (PAIR, (4, -4), 1), (PATH, (3, 4, -7), 1), (THICK_PAIR, (0, 0), 1),
            (THICK_PAIR, (1, -1), 9), (THICK_PAIR, (-1, 1), 9), (THICK_PAIR, (3, -3), 3), (THICK_PAIR, (-6, 6), 3),
            (THICK_PAIR, (9, -9), 1), (THICK_PAIR, (-10, 10), 9), (TRIANGLE, (1, -1, 0), 3), (TRIANGLE, (1, 1, -2), 1),
            (woven(4, (0, 1, 2), (0, 2, 3), (0, 3, 4)), (-3, 1, 1, 1), 12),
            (woven(4, (0, 1, 2), (0, 2, 3), (0, 3, 4)), (-3, 1, 0, 2), 2),
            (woven(4, (0, 1, 2), (0, 2, 3), (0, 3, 4)), (-2, 1, 1, 0), 6),
            (THICK_PAIR, (3 * 10 ** 29, -3 * 10 ** 29), 3), (THICK_PAIR, (THIRTY, -THIRTY), 1),
        ):
            self.assertEqual(self.assert_round(web, purse), often, (web, purse))

    def test_no_lesser_number_on_small_webs(self):
        for web in FEW_TIES + (THICK_PAIR,) + THICK_WEBS[:2]:
            noughts = class_of(web, (0,) * len(web))
            for purse in one_of_each_class(web, 0):
                leading = [often for often in range(1, 101) if class_of(web, taken(purse, often)) == noughts]
                self.assertEqual(self.assert_round(web, purse), leading[0], (web, purse))

    def test_purses_that_are_alike_have_one_round(self):
        for web, one, other, script in by_chance(104, 150):
            purse = with_total(one, 0)
            often = self.assert_round(web, purse)
            self.assertEqual(round_of(web, led(web, purse, script)), often, (web, purse, script))
            self.assertEqual(round_of(web, taken(purse, -1)), often, (web, purse))

    def test_as_great_as_there_are_trees(self):
        self.assertEqual((len(GREAT_ROUND), sum(map(sum, GREAT_ROUND))), (7, 60))
        self.assertEqual(tree_count(GREAT_ROUND), 131345)
        self.assertEqual(self.assert_round(GREAT_ROUND, (1, -1, 0, 0, 0, 0, 0)), 131345)
        self.assertEqual(self.assert_round(GREAT_ROUND, (1, 0, -1, 0, 0, 0, 0)), 109)
        self.assertEqual(self.assert_round(GREAT_ROUND, (0, 0, 0, 0, 10 ** 29, -10 ** 29, 0)), 241)
        self.assertEqual(self.assert_round(THIRTY_TIES[0], (1, 0, 0, 0, -1, 0, 0)), 934)

    def test_another_total_is_refused(self):
        for web in SMALL_WEBS + [FULL, GREAT_ROUND]:
            for total in (1, -1, 9, tree_count(web), THIRTY, -THIRTY):
                for purse in ((0,) * len(web), (3,) * len(web), tuple(range(len(web)))):
                    error = refusal(self, "NoTotal", round_of, web, with_total(purse, total))
                    self.assertEqual(error.total, total)
                    self.assertIs(type(error.total), int)


if __name__ == "__main__":
    unittest.main()
