import itertools
import unittest

from purseweb.squares import multiplied, square_of
from tests.helper import (
    FULL, LONE, LOPSIDED, PAIR, PATH, THICK_PAIR, THIRTY, THIRTY_TIES, TRIANGLE, WEBS, by_chance, inverse, unit,
)


def some_squares(size):
    """Unlike to one another, and to themselves when rows and columns are exchanged."""
    cells = list(itertools.product(range(size), repeat=2))
    for numbers in (
        [row * size + column for row, column in cells],
        [(-1) ** column * (row + 2 * column) for row, column in cells],
        [THIRTY - row if row <= column else -column for row, column in cells],
        [0] * len(cells),
    ):
        yield tuple(tuple(numbers[row * size:row * size + size]) for row in range(size))


class SquareOfTest(unittest.TestCase):
    def test_square_of(self):
        self.assertEqual(square_of(LONE), ())
        self.assertEqual(square_of(PAIR), ((1,),))
        self.assertEqual(square_of(THICK_PAIR), ((9,),))
        self.assertEqual(square_of(PATH), ((2, -1), (-1, 1)))
        self.assertEqual(square_of(TRIANGLE), ((2, -1), (-1, 2)))
        self.assertEqual(square_of(LOPSIDED), ((1, 0, 0), (0, 4, -1), (0, -1, 1)))
        self.assertEqual(square_of(FULL), tuple(tuple(54 if a == b else -9 for b in range(6)) for a in range(6)))

    def test_a_square_is_a_tuple_of_tuples_of_whole_numbers(self):
        for web in WEBS + THIRTY_TIES:
            square = square_of(web)
            self.assertIs(type(square), tuple)
            self.assertEqual([(type(row), len(row)) for row in square], [(tuple, len(web) - 1)] * (len(web) - 1))
            self.assertLessEqual({type(number) for row in square for number in row}, {int})

    def test_webs_by_chance(self):
        for web, one, other, script in by_chance(71, 100):
            square = square_of(web)
            self.assertEqual(len(square), len(web) - 1)
            for a, b in itertools.product(range(1, len(web)), repeat=2):
                self.assertEqual(square[a - 1][b - 1], sum(web[a]) if a == b else -web[a][b], (web, a, b))

    def test_the_inverse_belongs_to_the_square(self):
        for web in WEBS + THIRTY_TIES:
            self.assertEqual(multiplied(square_of(web), tuple(map(tuple, inverse(web)))), unit(len(web) - 1))


class MultipliedTest(unittest.TestCase):
    def test_multiplied(self):
        self.assertEqual(multiplied((), ()), ())
        self.assertEqual(multiplied(((3,),), ((-4,),)), ((-12,),))
        self.assertEqual(multiplied(((1, 2), (3, 4)), ((5, 6), (7, 8))), ((19, 22), (43, 50)))
        self.assertEqual(multiplied(((5, 6), (7, 8)), ((1, 2), (3, 4))), ((23, 34), (31, 46)))
        self.assertEqual(multiplied(((0, 1), (0, 0)), ((0, 0), (1, 0))), ((1, 0), (0, 0)))
        self.assertEqual(multiplied(((THIRTY,),), ((THIRTY,),)), ((THIRTY * THIRTY,),))

    def test_at_each_row_and_column(self):
        for size in range(8):
            for one, other in itertools.product(some_squares(size), repeat=2):
                told = multiplied(one, other)
                self.assertIs(type(told), tuple)
                self.assertEqual([type(row) for row in told], [tuple] * size)
                self.assertEqual([len(row) for row in told], [size] * size)
                for row, column in itertools.product(range(size), repeat=2):
                    numbers = [one[row][k] * other[k][column] for k in range(size)]
                    self.assertEqual(told[row][column], sum(numbers), (one, other, row, column))

    def test_times_the_unit_it_is_the_square(self):
        for size in range(8):
            for square in some_squares(size):
                self.assertEqual(multiplied(square, unit(size)), square)
                self.assertEqual(multiplied(unit(size), square), square)

    def test_three_squares(self):
        for size in range(6):
            for one, other, third in itertools.product(some_squares(size), repeat=3):
                self.assertEqual(multiplied(multiplied(one, other), third), multiplied(one, multiplied(other, third)))


if __name__ == "__main__":
    unittest.main()
