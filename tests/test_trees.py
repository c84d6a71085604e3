import functools
import unittest

from purseweb.trees import tree_count, trees
from tests.helper import (
    FEW_TIES, FULL, LONE, LOPSIDED, ONE_TREE_MORE, PAIR, PATH, SMALL_WEBS, THICK_PAIR, THIRTY_TIES, THREE_HUNDRED_TREES,
    TRIANGLE, WEBS, all_come_to_one_another, by_chance, each_two_tied, ends_of, new_each_time, refusal, ring,
    trees_among, woven,
)


@functools.lru_cache(maxsize=None)
def counted(web):
    """By leaving the ties between the last house and another one out, and by drawing the two together."""
    last = len(web) - 1
    near = [house for house in range(last) if web[last][house]]
    if not near:
        return int(last == 0)
    by = near[0]
    without = [list(row) for row in web]
    without[last][by] = without[by][last] = 0
    drawn = [list(row[:last]) for row in web[:last]]
    for house in near[1:]:
        drawn[house][by] += web[last][house]
        drawn[by][house] += web[last][house]
    return counted(tuple(map(tuple, without))) + web[last][by] * counted(tuple(map(tuple, drawn)))


class TreeCountTest(unittest.TestCase):
    def test_counts(self):
        for web, count in (
            (LONE, 1), (PAIR, 1), (THICK_PAIR, 9), (PATH, 1), (TRIANGLE, 3), (LOPSIDED, 3), (FULL, 7 ** 5 * 9 ** 6),
            (woven(3, (0, 1, 2), (0, 2, 3), (1, 2, 4)), 26), (woven(4, (0, 1, 2), (1, 2, 3), (1, 3, 9)), 54),
            (THREE_HUNDRED_TREES, 300), (ONE_TREE_MORE, 301),
        ):
            told = tree_count(web)
            self.assertEqual(told, count, web)
            self.assertIs(type(told), int)

    def test_rings_and_webs_where_each_two_houses_are_tied(self):
        for many in range(3, 8):
            self.assertEqual(tree_count(ring(many)), many)
            self.assertEqual(tree_count(each_two_tied(many)), many ** (many - 2))

    def test_webs_with_many_ties(self):
        for web in WEBS + THIRTY_TIES:
            self.assertEqual(tree_count(web), counted(web), web)

    def test_webs_by_chance(self):
        for web, one, other, script in by_chance(61, 300):
            self.assertEqual(tree_count(web), counted(web), web)


class TreesTest(unittest.TestCase):
    def assert_trees(self, web, *most):
        told = trees(web, *most)
        self.assertIs(type(told), list)
        self.assertEqual({type(tree) for tree in told}, {tuple})
        self.assertEqual(len(told), tree_count(web), web)
        self.assertEqual(told, sorted(set(told)), web)
        return told

    def test_trees(self):
        self.assertEqual(trees(LONE), [()])
        self.assertEqual(trees(PAIR), [(0,)])
        self.assertEqual(trees(THICK_PAIR), [(tie,) for tie in range(9)])
        self.assertEqual(trees(PATH), [(0, 1)])
        self.assertEqual(trees(TRIANGLE), [(0, 1), (0, 2), (1, 2)])
        self.assertEqual(trees(LOPSIDED), [(0, 1, 4), (0, 2, 4), (0, 3, 4)])
        self.assertEqual(trees(woven(3, (0, 1, 2), (0, 2, 1), (1, 2, 1))), [(0, 2), (0, 3), (1, 2), (1, 3), (2, 3)])
        self.assertEqual(trees(ring(4)), [(0, 1, 2), (0, 1, 3), (0, 2, 3), (1, 2, 3)])

    def test_each_choice_of_ties(self):
        for web in FEW_TIES + (ring(6), each_two_tied(5), THICK_PAIR):
            self.assertEqual(self.assert_trees(web), trees_among(web), web)

    def test_each_choice_of_ties_on_webs_by_chance(self):
        many = 0
        for web, one, other, script in by_chance(62, 60):
            if len(web) < 6 and tree_count(web) <= 300:
                self.assertEqual(self.assert_trees(web), trees_among(web), web)
                many += 1
        self.assertGreater(many, 20)

    def test_webs_of_many_ties(self):
        for web in THIRTY_TIES + (THREE_HUNDRED_TREES, each_two_tied(6)):
            ends = ends_of(web)
            for tree in self.assert_trees(web, 4000):
                self.assertEqual(list(tree), sorted(set(tree)))
                self.assertEqual(len(tree), len(web) - 1)
                self.assertTrue(all_come_to_one_another(len(web), [ends[tie] for tie in tree]), (web, tree))

    def test_just_as_many_as_most(self):
        for web in SMALL_WEBS + [ring(7), each_two_tied(5), THIRTY_TIES[2]]:
            count = tree_count(web)
            self.assertEqual(self.assert_trees(web, count), self.assert_trees(web, count + 1))
            self.assertEqual(trees(web, most=count), trees(web, count))

    def test_one_more_than_most(self):
        for web in SMALL_WEBS + [ring(7), each_two_tied(5), THIRTY_TIES[2]]:
            for most in sorted({0, tree_count(web) // 2, tree_count(web) - 1}):
                error = refusal(self, "TooMany", trees, web, most)
                self.assertEqual(error.most, most)
                self.assertIs(type(error.most), int)

    def test_most_left_out(self):
        self.assertEqual(len(self.assert_trees(THREE_HUNDRED_TREES)), 300)
        self.assertEqual(refusal(self, "TooMany", trees, ONE_TREE_MORE).most, 300)
        self.assertEqual(len(self.assert_trees(ONE_TREE_MORE, 301)), 301)

    def test_many_more_than_most(self):
        for most in (300, 10 ** 9):
            self.assertEqual(refusal(self, "TooMany", trees, FULL, most).most, most)

    def test_the_list_is_a_new_one_each_time(self):
        for web in SMALL_WEBS:
            new_each_time(self, trees, web)


if __name__ == "__main__":
    unittest.main()
