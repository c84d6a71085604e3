import itertools
import unittest

from purseweb.alike import alike
from purseweb.breaks import break_of, broken, lacking
from purseweb.trees import tree_count
from tests.helper import (
    FEW_TIES, FULL, GREAT_ROUND, LONE, LOPSIDED, ONE_TREE_MORE, PAIR, PATH, SMALL_WEBS, THICK_PAIR, THIRTY,
    THIRTY_TIES, TRIANGLE, TWELVE_TIES, all_come_to_one_another, breaks_among, by_chance, class_of, coins_at,
    each_two_tied, ends_of, ends_outside, led, loops_of, one_of_each_class, purses_without_debt, refusal, ring,
    some_purses, trees_among, twelve_by_chance, with_total, woven,
)

# More than three hundred trees each.
MANY_TREES = (ONE_TREE_MORE, each_two_tied(6), each_two_tied(7), FULL, GREAT_ROUND) + THIRTY_TIES[:2]


def sets_of_houses(web):
    houses = range(len(web))
    return [some for many in range(1, len(web) + 1) for some in itertools.combinations(houses, many)]


def lacks(web, purse, houses):
    between = sum(web[a][b] for a, b in itertools.combinations(houses, 2))
    return sum(purse[house] for house in houses) < between - len(houses) + 1


def a_tree(web, backwards):
    """The tree of the first ties, or of the last ones, that can be put to one another."""
    ends = ends_of(web)
    tree = set(range(len(ends)))
    for tie in sorted(tree, reverse=not backwards):
        if all_come_to_one_another(len(web), [ends[other] for other in tree - {tie}]):
            tree.remove(tie)
    return tuple(sorted(tree))


def some_ends(web, tree):
    """Several choices of ends."""
    both = ends_outside(web, tree)
    return [tuple(two[(tie + shift) % 3 % 2] for tie, two in enumerate(both)) for shift in range(3)]


def purses_of_the_loops(web):
    """Coins and small debts."""
    shifted = purses_without_debt(len(web), loops_of(web) + len(web))
    return [tuple(coins - 1 for coins in purse) for purse in shifted]


class BreakOfTest(unittest.TestCase):
    def assert_broken_from(self, web, tree, ends):
        purse = break_of(web, tree, ends)
        amid = (web, tree, ends)
        self.assertIs(type(purse), tuple, amid)
        self.assertEqual([type(coins) for coins in purse], [int] * len(web), amid)
        self.assertEqual(purse, coins_at(web, ends), amid)
        self.assertEqual(sum(purse), loops_of(web), amid)
        return purse

    def test_purses(self):
        for web, tree, ends, purse in (
            (LONE, (), (), (0,)), (PAIR, (0,), (), (0, 0)), (PATH, (0, 1), (), (0, 0, 0)),
            (TRIANGLE, (0, 1), (1,), (0, 1, 0)), (TRIANGLE, (0, 1), (2,), (0, 0, 1)),
            (TRIANGLE, (1, 2), (0,), (1, 0, 0)), (THICK_PAIR, (3,), (0, 0, 1, 0, 0, 0, 1, 0), (6, 2)),
            (LOPSIDED, (0, 2, 4), (0, 2), (1, 0, 1, 0)), (LOPSIDED, (0, 2, 4), (2, 2), (0, 0, 2, 0)),
            (LOPSIDED, (0, 3, 4), (0, 0), (2, 0, 0, 0)),
        ):
            self.assertEqual(self.assert_broken_from(web, tree, ends), purse, (web, tree, ends))

    def test_each_tree_with_all_ends(self):
        for web in FEW_TIES + (THICK_PAIR,):
            for tree in trees_among(web):
                for ends in itertools.product(*ends_outside(web, tree)):
                    self.assert_broken_from(web, tree, ends)

    def test_more_than_three_hundred_trees(self):
        for web in MANY_TREES:
            self.assertGreater(tree_count(web), 300)
            for backwards in (False, True):
                tree = a_tree(web, backwards)
                for ends in some_ends(web, tree):
                    self.assert_broken_from(web, tree, ends)
                    refusal(self, "NoEnds", break_of, web, tree, ends[1:])
                    refusal(self, "NoEnds", break_of, web, tree, ends + (0,))
                    refusal(self, "NoTree", break_of, web, tree[1:], ends)

    def test_what_is_no_tree_is_refused(self):
        for web, numbers in (
            (LONE, (0,)), (PAIR, ()), (PAIR, (1,)), (PAIR, (-1,)), (PAIR, (0, 0)), (THICK_PAIR, (9,)),
            (THICK_PAIR, (0, 1)), (THICK_PAIR, (THIRTY,)), (TRIANGLE, (1,)), (TRIANGLE, (0, 1, 2)), (TRIANGLE, (0, 0)),
            (TRIANGLE, (1, 0)), (TRIANGLE, (-1, 0)), (TRIANGLE, (0, 3)), (LOPSIDED, (0, 1, 2)), (LOPSIDED, (4, 1, 0)),
        ):
            for count in range(9):
                for house in range(-1, len(web) + 1):
                    refusal(self, "NoTree", break_of, web, numbers, (house,) * count)

    def test_each_choice_of_ties(self):
        for web in (TRIANGLE, PATH, LOPSIDED, ring(4), woven(3, (0, 1, 2), (0, 2, 2), (1, 2, 1))):
            ties = range(-1, len(ends_of(web)) + 1)
            for size in range(len(web) + 1):
                for numbers in itertools.product(ties, repeat=size):
                    ends = tuple(both[0] for both in ends_outside(web, numbers))
                    if numbers in trees_among(web):
                        self.assert_broken_from(web, numbers, ends)
                    else:
                        refusal(self, "NoTree", break_of, web, numbers, ends)

    def test_each_choice_of_ends(self):
        for web in (LONE, PAIR, PATH, TRIANGLE, LOPSIDED, ring(4), each_two_tied(4), woven(3, (0, 1, 2), (1, 2, 2))):
            tree = trees_among(web)[-1]
            both = ends_outside(web, tree)
            for count in range(len(both) + 2):
                for ends in itertools.product(range(-1, len(web) + 1), repeat=count):
                    if count == len(both) and all(map(lambda end, two: end in two, ends, both)):
                        self.assert_broken_from(web, tree, ends)
                    else:
                        refusal(self, "NoEnds", break_of, web, tree, ends)

    def test_ends_of_other_ties_are_refused(self):
        # Each an end of one of the ties, but not in the ties' order.
        web = woven(4, (0, 1, 2), (2, 3, 2), (1, 2, 1))
        self.assertEqual(break_of(web, (0, 2, 3), (1, 3)), (0, 1, 0, 1))
        refusal(self, "NoEnds", break_of, web, (0, 2, 3), (3, 1))
        refusal(self, "NoEnds", break_of, web, (0, 2, 3), (1, 1))
        refusal(self, "NoEnds", break_of, web, (0, 2, 3), (1, -1))
        refusal(self, "NoEnds", break_of, web, (0, 2, 3), (-THIRTY, THIRTY))

    def test_no_tree_comes_ahead_of_no_ends(self):
        refusal(self, "NoTree", break_of, TRIANGLE, (0,), ())
        refusal(self, "NoTree", break_of, TRIANGLE, (1, 0), (7,))
        refusal(self, "NoTree", break_of, THICK_PAIR, (), ())


class LackingTest(unittest.TestCase):
    def assert_lacking(self, web, purse):
        """That the houses lack as told, or that no set of houses does; whether some lack is given back."""
        houses = lacking(web, purse)
        amid = (web, purse, houses)
        if houses is None:
            self.assertEqual([some for some in sets_of_houses(web) if lacks(web, purse, some)], [], amid)
            return False
        self.assertIs(type(houses), tuple, amid)
        self.assertIn(houses, sets_of_houses(web), amid)
        self.assertTrue(lacks(web, purse, houses), amid)
        return True

    def test_lacking(self):
        self.assertIsNone(lacking(LONE, (0,)))
        self.assertIsNone(lacking(PAIR, (0, 0)))
        self.assertEqual(lacking(PAIR, (1, -1)), (1,))
        self.assertEqual(lacking(PAIR, (-THIRTY, THIRTY)), (0,))
        self.assertIsNone(lacking(TRIANGLE, (0, 0, 1)))
        self.assertEqual(lacking(woven(4, (0, 1, 2), (1, 2, 1), (2, 3, 2)), (2, 0, 0, 0)), (2, 3))
        self.assertEqual(lacking(woven(4, (0, 1, 2), (1, 2, 1), (2, 3, 2)), (0, 0, 1, 1)), (0, 1))
        self.assertIsNone(lacking(woven(4, (0, 1, 2), (1, 2, 1), (2, 3, 2)), (1, 0, 0, 1)))

    def test_none_of_every_break_purse(self):
        for web in FEW_TIES + (THICK_PAIR,):
            for tree in trees_among(web):
                for ends in itertools.product(*ends_outside(web, tree)):
                    self.assertIsNone(lacking(web, break_of(web, tree, ends)), (web, tree, ends))

    def test_each_other_purse_of_the_loops_has_houses_that_lack(self):
        for web in FEW_TIES + (THICK_PAIR, ring(6)):
            purses = purses_of_the_loops(web)
            free = [purse for purse in purses if not self.assert_lacking(web, purse)]
            self.assertEqual(sorted(free), breaks_among(web), web)

    def test_webs_by_chance(self):
        for web, one, other, script in by_chance(111, 200):
            for purse in (one, other):
                self.assert_lacking(web, with_total(purse, loops_of(web)))

    def test_break_purses_of_webs_with_many_trees(self):
        for web in MANY_TREES:
            for backwards in (False, True):
                for ends in some_ends(web, a_tree(web, backwards)):
                    purse = coins_at(web, ends)
                    self.assertFalse(self.assert_lacking(web, purse))
                    for house in range(1, len(web)):
                        debt = purse[:house] + (-1,) + purse[house + 1:]
                        self.assertTrue(self.assert_lacking(web, with_total(debt, loops_of(web))))

    def test_thirty_figures(self):
        for web in TWELVE_TIES + MANY_TREES:
            for purse in some_purses(len(web)):
                self.assert_lacking(web, with_total(purse, loops_of(web)))


class BrokenTest(unittest.TestCase):
    def assert_broken(self, web, purse):
        told = broken(web, purse)
        amid = (web, purse, told)
        self.assertIs(type(told), tuple, amid)
        self.assertEqual([type(part) for part in told], [tuple] * 4, amid)
        script, reached, tree, ends = told
        self.assertLessEqual({type(number) for part in told for number in part}, {int}, amid)
        self.assertEqual((len(script), min(script)), (len(web), 0), amid)
        self.assertEqual(reached, led(web, purse, script), amid)
        self.assertEqual((len(tree), list(tree)), (len(web) - 1, sorted(set(tree))), amid)
        self.assertLessEqual(set(tree), set(range(len(ends_of(web)))), amid)
        self.assertTrue(all_come_to_one_another(len(web), [ends_of(web)[tie] for tie in tree]), amid)
        both = ends_outside(web, tree)
        self.assertEqual(len(ends), len(both), amid)
        self.assertTrue(all(end in two for end, two in zip(ends, both)), amid)
        self.assertEqual(reached, coins_at(web, ends), amid)
        return reached

    def test_broken(self):
        self.assertEqual(broken(LONE, (0,)), ((0,), (0,), (), ()))
        self.assertEqual(broken(PAIR, (5, -5)), ((5, 0), (0, 0), (0,), ()))
        self.assertEqual(broken(PATH, (THIRTY, 0, -THIRTY)), ((2 * THIRTY, THIRTY, 0), (0, 0, 0), (0, 1), ()))
        self.assertEqual(broken(TRIANGLE, (3, -1, -1))[:2], ((1, 0, 0), (1, 0, 0)))
        self.assertEqual(broken(TRIANGLE, (2, 0, -1))[:2], ((1, 0, 0), (0, 1, 0)))
        self.assertEqual(broken(TRIANGLE, (4, -3, 0))[:2], ((2, 0, 1), (1, 0, 0)))

    def test_each_class_of_purses_has_its_own_break_purse(self):
        for web in FEW_TIES + (THICK_PAIR, ring(6)):
            purses = one_of_each_class(web, loops_of(web))
            self.assertEqual(len(purses), tree_count(web), web)
            self.assertEqual(sorted(self.assert_broken(web, purse) for purse in purses), breaks_among(web), web)

    def test_a_break_purse_is_led_to_itself(self):
        for web in FEW_TIES + (THICK_PAIR,):
            for purse in breaks_among(web):
                self.assertEqual(self.assert_broken(web, purse), purse)
                self.assertEqual(broken(web, purse)[0], (0,) * len(web), (web, purse))

    def test_every_small_purse(self):
        for web in SMALL_WEBS[:-1] + [woven(2, (0, 1, 3)), ring(4)]:
            for purse in purses_of_the_loops(web):
                self.assertIn(self.assert_broken(web, purse), breaks_among(web), (web, purse))

    def test_alike_purses_are_led_to_one_break_purse(self):
        for web, purse, script in twelve_by_chance(112, 400):
            reached = self.assert_broken(web, purse)
            self.assertEqual(self.assert_broken(web, led(web, purse, script)), reached, (web, purse, script))

    def test_unlike_purses_are_led_to_two(self):
        unlike = 0
        for web, purse, script in twelve_by_chance(113, 300):
            other = with_total(script, sum(purse))
            same = broken(web, purse)[1] == broken(web, other)[1]
            self.assertEqual(same, alike(web, purse, other) is not None, (web, purse, other))
            unlike += not same
        self.assertGreater(unlike, 150)

    def test_six_houses_and_twelve_ties(self):
        for web in TWELVE_TIES:
            self.assertEqual((len(web), len(ends_of(web))), (6, 12))
            for purse in some_purses(6):
                self.assert_broken(web, with_total(purse, 7))
            for lender, other in itertools.permutations(range(6), 2):
                purse = tuple(7 * (house == 0) + THIRTY * ((house == lender) - (house == other)) for house in range(6))
                self.assert_broken(web, purse)

    def test_one_break_purse_for_each_tree_of_six_houses_and_twelve_ties(self):
        for web in TWELVE_TIES:
            many = tree_count(web)
            found = {}
            for purse in purses_without_debt(6, 7):
                reached = self.assert_broken(web, purse) if class_of(web, purse) not in found else None
                found.setdefault(class_of(web, purse), reached)
            self.assertEqual((len(found), len(set(found.values()))), (many, many), web)
        self.assertGreater(max(map(tree_count, TWELVE_TIES)), 300)


class TotalTest(unittest.TestCase):
    def test_another_total_is_refused(self):
        for web in FEW_TIES + (THICK_PAIR,) + TWELVE_TIES:
            loops = loops_of(web)
            for total in sorted({loops - 1, loops + 1, -loops - 1, loops - THIRTY, THIRTY}):
                for purse in ((0,) * len(web), (3,) * len(web), (-THIRTY,) * len(web)):
                    for call in (lacking, broken):
                        error = refusal(self, "NoTotal", call, web, with_total(purse, total))
                        self.assertEqual(error.total, total)
                        self.assertIs(type(error.total), int)

    def test_a_total_of_noughts_where_there_are_loops(self):
        for call in (lacking, broken):
            self.assertEqual(refusal(self, "NoTotal", call, TRIANGLE, (0, 0, 0)).total, 0)
            self.assertEqual(refusal(self, "NoTotal", call, PAIR, (0, 1)).total, 1)


if __name__ == "__main__":
    unittest.main()
