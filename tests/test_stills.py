import functools
import itertools
import random
import unittest

from purseweb.settle import settle
from purseweb.stills import back, joined, still_of, stills, tree_of
from purseweb.trees import tree_count, trees
from tests.helper import (
    FEW_TIES, FULL, LONE, LOPSIDED, ONE_TREE_MORE, PAIR, PATH, THICK_PAIR, THIRTY, THIRTY_TIES, THREE_HUNDRED_TREES,
    TRIANGLE, by_chance, class_of, each_two_tied, ends_of, fire_of, new_each_time, refusal, ring, trees_among, woven,
)

WEBS_AND_BASES = [(web, base) for web in FEW_TIES + (THICK_PAIR,) for base in range(len(web))]

# A square of ties and one across: ties 0-1, 0-2, 0-3, 1-2, 2-3.
CROSSED = woven(4, (0, 1, 1), (0, 2, 1), (0, 3, 1), (1, 2, 1), (2, 3, 1))


def tree_walked(web, base, purse):
    """Tie by tie, as told, whether all houses burn or not."""
    ends = ends_of(web)
    burnt = {base}
    looked = set()
    tree = set()
    while True:
        ready = [tie for tie, both in enumerate(ends) if tie not in looked and len(burnt.intersection(both)) == 1]
        if not ready:
            return tuple(sorted(tree))
        looked.add(ready[0])
        (other,) = set(ends[ready[0]]) - burnt
        if purse[other] < sum(other in ends[tie] for tie in looked):
            burnt.add(other)
            tree.add(ready[0])


@functools.lru_cache(maxsize=None)
def stills_among(web, base):
    """Each purse that may be still, looked at by itself."""
    ranges = [range(1 if house == base else sum(row) + 1) for house, row in enumerate(web)]
    return [purse for purse in itertools.product(*ranges) if len(fire_of(web, purse, base)) == len(web)]


def with_at(purse, base, coins):
    return purse[:base] + (coins,) + purse[base + 1:]


def put_together(*purses):
    return tuple(map(sum, zip(*purses)))


def unsettled(web, base):
    """Purses in debt, or that don't burn, all with 0 for the base."""
    for house in range(len(web)):
        if house != base:
            for coins in (-1, -THIRTY, sum(web[house]), THIRTY):
                yield with_at((0,) * len(web), house, coins)
    if len(web) > 1:
        yield tuple(0 if house == base else web[house][base] for house in range(len(web)))


class TreeOfTest(unittest.TestCase):
    def test_trees_of_purses(self):
        for web, base, purse, tree in (
            (LONE, 0, (0,), ()), (LONE, 0, (-THIRTY,), ()), (PAIR, 0, (0, 0), (0,)), (PAIR, 1, (0, 5), (0,)),
            (PATH, 1, (0, 0, 0), (0, 1)), (THICK_PAIR, 0, (0, 0), (0,)), (THICK_PAIR, 0, (0, 8), (8,)),
            (THICK_PAIR, 1, (3, 0), (3,)), (TRIANGLE, 0, (0, 0, 0), (0, 1)), (TRIANGLE, 0, (0, 1, 0), (1, 2)),
            (TRIANGLE, 0, (0, 0, 1), (0, 2)), (TRIANGLE, 2, (0, 0, 0), (0, 1)), (TRIANGLE, 2, (0, 1, 0), (1, 2)),
            (TRIANGLE, 2, (1, 0, 0), (0, 2)), (LOPSIDED, 3, (2, 0, 0, 0), (0, 3, 4)),
            (CROSSED, 0, (0, 0, 0, 0), (0, 1, 2)), (CROSSED, 0, (0, 0, 2, 0), (0, 2, 4)),
        ):
            self.assertEqual(tree_of(web, base, purse), tree, (web, base, purse))

    def test_walked_tie_by_tie_at_every_base(self):
        for web, base in WEBS_AND_BASES:
            for still in stills_among(web, base):
                for coins in (0, 3, -2, THIRTY, -THIRTY):
                    purse = with_at(still, base, coins)
                    tree = tree_of(web, base, purse)
                    self.assertEqual(tree, tree_walked(web, base, purse), (web, base, purse))
                    self.assertIs(type(tree), tuple)

    def test_webs_by_chance(self):
        for web, one, other, script in by_chance(81, 200):
            for base in range(len(web)):
                purse = settle(web, one, base)[1]
                self.assertEqual(tree_of(web, base, purse), tree_walked(web, base, purse), (web, base, purse))

    def test_each_tree_belongs_to_one_settled_purse_of_a_total(self):
        for web, base in WEBS_AND_BASES:
            for total in (-1, 0, 4):
                purses = [with_at(still, base, total - sum(still)) for still in stills_among(web, base)]
                self.assertEqual(len(purses), tree_count(web), (web, base))
                self.assertEqual(sorted(tree_of(web, base, purse) for purse in purses), trees_among(web), (web, base))

    def test_what_is_not_settled_is_refused(self):
        many = 0
        for web, base in WEBS_AND_BASES:
            for purse in unsettled(web, base):
                for coins in (0, 1, -1, THIRTY):
                    refusal(self, "NotSettled", tree_of, web, base, with_at(purse, base, coins))
                    many += 1
        self.assertGreater(many, 100)

    def test_settled_at_one_base_and_not_at_another(self):
        self.assertEqual(tree_of(PAIR, 1, (0, 4)), (0,))
        refusal(self, "NotSettled", tree_of, PAIR, 0, (0, 4))
        self.assertEqual(tree_of(TRIANGLE, 0, (-3, 1, 0)), (1, 2))
        refusal(self, "NotSettled", tree_of, TRIANGLE, 1, (-3, 1, 0))
        refusal(self, "NotSettled", tree_of, TRIANGLE, 0, (0, 1, 1))


class StillOfTest(unittest.TestCase):
    def assert_no_tree(self, web, numbers):
        for base in range(len(web)):
            refusal(self, "NoTree", still_of, web, base, numbers)

    def test_purses_of_trees(self):
        for web, base, tree, purse in (
            (LONE, 0, (), (0,)), (PAIR, 0, (0,), (0, 0)), (THICK_PAIR, 0, (8,), (0, 8)), (THICK_PAIR, 1, (3,), (3, 0)),
            (PATH, 1, (0, 1), (0, 0, 0)), (TRIANGLE, 0, (1, 2), (0, 1, 0)), (TRIANGLE, 2, (0, 2), (1, 0, 0)),
            (LOPSIDED, 3, (0, 3, 4), (2, 0, 0, 0)), (CROSSED, 0, (0, 2, 4), (0, 0, 2, 0)),
        ):
            told = still_of(web, base, tree)
            self.assertEqual(told, purse, (web, base, tree))
            self.assertIs(type(told), tuple)

    def test_there_and_back_for_all_trees_at_every_base(self):
        for web, base in WEBS_AND_BASES:
            for tree in trees_among(web):
                purse = still_of(web, base, tree)
                self.assertIn(purse, stills_among(web, base), (web, base, tree))
                self.assertEqual(tree_of(web, base, purse), tree, (web, base, purse))
            for purse in stills_among(web, base):
                self.assertEqual(still_of(web, base, tree_of(web, base, purse)), purse, (web, base, purse))

    def test_there_and_back_on_webs_by_chance(self):
        for web, one, other, script in by_chance(82, 200):
            for base in range(len(web)):
                purse = with_at(settle(web, other, base)[1], base, 0)
                self.assertEqual(still_of(web, base, tree_of(web, base, purse)), purse, (web, base, purse))

    def test_too_few_and_too_many(self):
        self.assert_no_tree(LONE, (0,))
        self.assert_no_tree(PAIR, ())
        self.assert_no_tree(THICK_PAIR, (0, 1))
        self.assert_no_tree(TRIANGLE, (1,))
        self.assert_no_tree(TRIANGLE, (0, 1, 2))
        self.assert_no_tree(CROSSED, (0, 1))
        self.assert_no_tree(CROSSED, (0, 1, 2, 3))

    def test_told_twice_or_not_rising(self):
        self.assert_no_tree(TRIANGLE, (0, 0))
        self.assert_no_tree(TRIANGLE, (1, 0))
        self.assert_no_tree(TRIANGLE, (0, 1, 1))
        self.assert_no_tree(CROSSED, (0, 1, 1))
        self.assert_no_tree(CROSSED, (0, 2, 1))
        self.assert_no_tree(CROSSED, (4, 2, 0))

    def test_a_number_that_is_no_tie(self):
        for number in (-THIRTY, -9, -1, 9, 10, THIRTY):
            self.assert_no_tree(THICK_PAIR, (number,))
        self.assert_no_tree(TRIANGLE, (-1, 0))
        self.assert_no_tree(TRIANGLE, (0, 3))
        self.assert_no_tree(TRIANGLE, (-3, -2))
        self.assert_no_tree(CROSSED, (0, 1, 5))

    def test_ties_in_a_ring(self):
        self.assert_no_tree(CROSSED, (0, 1, 3))
        self.assert_no_tree(CROSSED, (1, 2, 4))
        self.assert_no_tree(LOPSIDED, (0, 1, 2))
        self.assert_no_tree(woven(3, (0, 1, 2), (1, 2, 1)), (0, 1))

    def test_each_choice_of_ties(self):
        for web in (TRIANGLE, PATH, LOPSIDED, CROSSED, ring(4), woven(3, (0, 1, 2), (0, 2, 2), (1, 2, 1))):
            numbers = range(-1, len(ends_of(web)) + 1)
            for size in range(len(web) + 1):
                for choice in itertools.product(numbers, repeat=size):
                    if choice not in trees_among(web):
                        refusal(self, "NoTree", still_of, web, 0, choice)


class StillsTest(unittest.TestCase):
    def test_stills(self):
        self.assertEqual(stills(LONE, 0), [(0,)])
        self.assertEqual(stills(PAIR, 1), [(0, 0)])
        self.assertEqual(stills(THICK_PAIR, 0), [(0, coins) for coins in range(9)])
        self.assertEqual(stills(THICK_PAIR, 1), [(coins, 0) for coins in range(9)])
        self.assertEqual(stills(TRIANGLE, 1), [(0, 0, 0), (0, 0, 1), (1, 0, 0)])

    def test_each_purse_at_every_base(self):
        for web, base in WEBS_AND_BASES:
            told = stills(web, base)
            self.assertEqual(told, stills_among(web, base), (web, base))
            self.assertEqual(len(told), tree_count(web))
            self.assertEqual(told, sorted(set(told)))
            self.assertIs(type(told), list)
            self.assertEqual({type(purse) for purse in told}, {tuple})

    def test_many_still_purses(self):
        for web in THIRTY_TIES + (each_two_tied(6),):
            told = stills(web, 2, 4000)
            self.assertEqual(told, sorted(set(told)))
            self.assertEqual(len(told), tree_count(web))
            for purse in told[::10]:
                self.assertEqual((purse[2], len(fire_of(web, purse, 2))), (0, len(web)))

    def test_most(self):
        for web, base in WEBS_AND_BASES:
            count = tree_count(web)
            self.assertEqual(stills(web, base, count), stills(web, base, most=count + 1))
            for most in sorted({0, count - 1}):
                self.assertEqual(refusal(self, "TooMany", stills, web, base, most).most, most)

    def test_most_left_out(self):
        self.assertEqual(len(stills(THREE_HUNDRED_TREES, 4)), 300)
        self.assertEqual(len(stills(ONE_TREE_MORE, 4, 301)), 301)
        self.assertEqual(refusal(self, "TooMany", stills, ONE_TREE_MORE, 4).most, 300)
        self.assertEqual(refusal(self, "TooMany", stills, FULL, 4).most, 300)

    def test_the_list_is_a_new_one_each_time(self):
        for web, base in WEBS_AND_BASES:
            new_each_time(self, stills, web, base)
            self.assertEqual(trees(web), trees_among(web))


class JoinedTest(unittest.TestCase):
    def some_still(self, web, base):
        """All still purses where they are few, else some."""
        purses = stills_among(web, base)
        return purses if len(purses) < 13 else random.Random(91).sample(purses, 9)

    def assert_joined(self, web, base, one, other):
        told = joined(web, base, one, other)
        amid = (web, base, one, other, told)
        self.assertIs(type(told), tuple, amid)
        self.assertEqual(told[base], 0, amid)
        self.assertGreaterEqual(min(told), 0, amid)
        self.assertEqual(len(fire_of(web, told, base)), len(web), amid)
        both = put_together(one, other)
        self.assertEqual(class_of(web, told), class_of(web, with_at(both, base, sum(told) - sum(both))), amid)
        return told

    def test_joined(self):
        self.assertEqual(joined(LONE, 0, (0,), (0,)), (0,))
        self.assertEqual(joined(PAIR, 1, (0, 0), (0, 0)), (0, 0))
        self.assertEqual(joined(THICK_PAIR, 0, (0, 5), (0, 3)), (0, 8))
        self.assertEqual(joined(THICK_PAIR, 0, (0, 5), (0, 4)), (0, 0))
        self.assertEqual(joined(THICK_PAIR, 1, (5, 0), (7, 0)), (3, 0))
        self.assertEqual(joined(TRIANGLE, 0, (0, 1, 0), (0, 1, 0)), (0, 0, 1))
        self.assertEqual(joined(TRIANGLE, 0, (0, 1, 0), (0, 0, 1)), (0, 0, 0))

    def test_each_two_at_every_base(self):
        for web, base in WEBS_AND_BASES:
            for one, other in itertools.product(self.some_still(web, base), repeat=2):
                self.assertEqual(self.assert_joined(web, base, one, other), joined(web, base, other, one))

    def test_three_in_any_order(self):
        for web, base in WEBS_AND_BASES:
            for one, other, third in itertools.combinations(self.some_still(web, base), 3):
                first = joined(web, base, joined(web, base, one, other), third)
                self.assertEqual(joined(web, base, one, joined(web, base, other, third)), first)
                self.assertEqual(joined(web, base, joined(web, base, third, one), other), first)

    def test_with_noughts_it_is_the_purse_itself(self):
        for web, base in WEBS_AND_BASES:
            for purse in stills_among(web, base):
                self.assertEqual(joined(web, base, purse, (0,) * len(web)), purse)
                self.assertEqual(joined(web, base, (0,) * len(web), purse), purse)

    def test_joined_with_one_purse_each_comes_once(self):
        for web, base in WEBS_AND_BASES:
            for one in self.some_still(web, base)[::3]:
                told = [joined(web, base, one, other) for other in stills_among(web, base)]
                self.assertEqual(sorted(told), stills_among(web, base))

    def test_back(self):
        self.assertEqual(back(LONE, 0, (0,)), (0,))
        self.assertEqual(back(PAIR, 1, (0, 0)), (0, 0))
        self.assertEqual(back(THICK_PAIR, 0, (0, 0)), (0, 0))
        self.assertEqual(back(THICK_PAIR, 0, (0, 2)), (0, 7))
        self.assertEqual(back(THICK_PAIR, 1, (8, 0)), (1, 0))
        self.assertEqual(back(TRIANGLE, 0, (0, 1, 0)), (0, 0, 1))

    def test_joined_with_the_one_back_of_it_a_purse_is_noughts(self):
        for web, base in WEBS_AND_BASES:
            for purse in stills_among(web, base):
                told = back(web, base, purse)
                self.assertIs(type(told), tuple)
                self.assertIn(told, stills_among(web, base))
                self.assertEqual(joined(web, base, purse, told), (0,) * len(web), (web, base, purse))
                self.assertEqual(back(web, base, told), purse)

    def test_webs_by_chance(self):
        for web, first, second, script in by_chance(92, 150):
            for base in range(len(web)):
                one, other = [with_at(settle(web, purse, base)[1], base, 0) for purse in (first, second)]
                told = self.assert_joined(web, base, one, other)
                self.assertEqual(self.assert_joined(web, base, told, back(web, base, other)), one)
                self.assertEqual(self.assert_joined(web, base, one, back(web, base, one)), (0,) * len(web))

    def assert_not_still(self, web, base, purse):
        for still in self.some_still(web, base)[:2]:
            refusal(self, "NotSettled", joined, web, base, purse, still)
            refusal(self, "NotSettled", joined, web, base, still, purse)
        refusal(self, "NotSettled", joined, web, base, purse, purse)
        refusal(self, "NotSettled", back, web, base, purse)

    def test_what_is_not_settled_is_refused(self):
        for web, base in WEBS_AND_BASES:
            for purse in unsettled(web, base):
                self.assert_not_still(web, base, purse)

    def test_what_is_settled_but_not_still_is_refused(self):
        for web, base in WEBS_AND_BASES:
            for still in self.some_still(web, base)[-2:]:
                for coins in (1, -1, THIRTY, -THIRTY):
                    self.assert_not_still(web, base, with_at(still, base, coins))

    def test_two_that_are_still_only_together_are_refused(self):
        refusal(self, "NotSettled", joined, PAIR, 0, (1, 0), (-1, 0))
        refusal(self, "NotSettled", joined, PAIR, 0, (0, 1), (0, -1))


if __name__ == "__main__":
    unittest.main()
