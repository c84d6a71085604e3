import itertools
import unittest

from purseweb.webs import loops, ties_at, ties_of, web_of
from tests.helper import ALL_PAIRS, FULL, LONE, LOPSIDED, PAIR, PATH, THICK_PAIR, TRIANGLE, WEBS, new_each_time, refusal


def ties_told(web):
    return [(a, b, web[a][b]) for a, b in ALL_PAIRS if b < len(web) and web[a][b]]


def came_to(many, ties):
    """Grown until it stays, unlike the program's own walk."""
    houses = {0}
    while True:
        grown = houses | {b for a, b, times in ties if a in houses} | {a for a, b, times in ties if b in houses}
        if grown == houses:
            return tuple(sorted(houses))
        houses = grown


class WebOfTest(unittest.TestCase):
    def assert_no_web(self, many, ties, place):
        error = refusal(self, "NoWeb", web_of, many, ties)
        self.assertEqual(error.place, place)
        self.assertIs(type(error.place), type(place))

    def test_webs_of_one_house_to_seven(self):
        self.assertEqual(web_of(1, []), LONE)
        self.assertEqual(web_of(2, [(0, 1, 1)]), PAIR)
        self.assertEqual(web_of(2, [(0, 1, 9)]), THICK_PAIR)
        self.assertEqual(web_of(3, [(0, 1, 1), (1, 2, 1)]), PATH)
        self.assertEqual(web_of(3, [(0, 1, 1), (0, 2, 1), (1, 2, 1)]), TRIANGLE)
        self.assertEqual(web_of(4, [(0, 1, 1), (0, 2, 3), (2, 3, 1)]), LOPSIDED)
        self.assertEqual(web_of(7, [(a, b, 9) for a, b in ALL_PAIRS]), FULL)

    def test_a_web_is_a_tuple_of_tuples_of_whole_numbers(self):
        for web in WEBS:
            made = web_of(len(web), ties_told(web))
            self.assertIs(type(made), tuple)
            self.assertEqual({type(row) for row in made}, {tuple})
            self.assertEqual({type(times) for row in made for times in row}, {int})

    def test_the_list_may_be_in_any_order_and_stays(self):
        for ties in itertools.permutations([(0, 1, 1), (0, 2, 3), (2, 3, 1)]):
            handed = list(ties)
            self.assertEqual(web_of(4, handed), LOPSIDED)
            self.assertEqual(handed, list(ties))

    def test_a_made_web_is_not_changed_by_later_changes_of_the_list(self):
        ties = [(0, 1, 1)]
        web = web_of(2, ties)
        ties[0] = (0, 1, 5)
        self.assertEqual(web, PAIR)

    def test_every_times_from_1_to_9(self):
        for times in range(1, 10):
            self.assertEqual(web_of(2, [(0, 1, times)]), ((0, times), (times, 0)))

    def test_a_wrong_number_of_houses_comes_ahead_of_all(self):
        for many in (0, 8, -1, 9, 100, 10 ** 30, -10 ** 30):
            for ties in ([], [(0, 1, 1)], [(0, 0, 1)], [(0, 1, 10)], [(0, 1, 1), (0, 1, 1)]):
                self.assert_no_web(many, ties, None)

    def test_a_thing_amiss_at_the_first_a_middle_and_the_last_place(self):
        good = [(0, 1, 1), (1, 2, 2), (2, 3, 9), (3, 4, 1)]
        amiss = [
            (1, 0, 1), (4, 2, 1), (0, 0, 1), (4, 4, 1), (0, 5, 1), (4, 5, 1), (0, 6, 1), (5, 6, 1), (-1, 0, 1),
            (-1, 2, 1), (-2, -1, 1), (0, -1, 1), (0, 10 ** 30, 1), (0, 2, 0), (0, 2, 10), (0, 2, -1), (0, 2, 10 ** 30),
        ]
        for tie in amiss:
            for place in range(len(good) + 1):
                self.assert_no_web(5, good[:place] + [tie] + good[place:], place)

    def test_the_first_of_several_things_amiss_is_told(self):
        self.assert_no_web(3, [(0, 1, 1), (2, 1, 1), (0, 1, 1), (0, 3, 1)], 1)
        self.assert_no_web(3, [(0, 1, 10), (0, 0, 1)], 0)
        self.assert_no_web(3, [(0, 1, 1), (0, 1, 10), (0, 1, 1)], 1)

    def test_a_pair_told_again(self):
        self.assert_no_web(2, [(0, 1, 1), (0, 1, 1)], 1)
        self.assert_no_web(2, [(0, 1, 4), (0, 1, 5)], 1)
        good = [(0, 1, 1), (1, 2, 2), (2, 3, 9), (3, 4, 1)]
        for told in range(len(good)):
            for place in range(told + 1, len(good) + 1):
                self.assert_no_web(5, good[:place] + [good[told]] + good[place:], place)

    def test_a_house_by_itself_has_no_ties_to_tell(self):
        for tie in ((0, 0, 1), (0, 1, 1)):
            self.assert_no_web(1, [tie], 0)

    def test_things_amiss_come_ahead_of_houses_apart(self):
        self.assert_no_web(4, [(2, 3, 1), (0, 1, 0)], 1)

    def test_houses_apart(self):
        for many, ties, houses in (
            (2, [], (0,)),
            (7, [], (0,)),
            (3, [(1, 2, 1)], (0,)),
            (3, [(0, 2, 9)], (0, 2)),
            (4, [(2, 3, 1), (0, 1, 1)], (0, 1)),
            (6, [(0, 5, 1), (3, 5, 1), (1, 3, 1), (2, 4, 1)], (0, 1, 3, 5)),
            (7, [(a, b, 9) for a, b in ALL_PAIRS if b < 6], (0, 1, 2, 3, 4, 5)),
        ):
            error = refusal(self, "Apart", web_of, many, ties)
            self.assertEqual(error.houses, houses)
            self.assertIs(type(error.houses), tuple)
            self.assertEqual({type(house) for house in error.houses}, {int})

    def test_each_choice_of_pairs_among_five_houses(self):
        pairs = [pair for pair in ALL_PAIRS if pair[1] < 5]
        for chosen in itertools.product((False, True), repeat=len(pairs)):
            ties = [(a, b, 1 + (a + b) % 9) for (a, b), is_in in zip(pairs, chosen) if is_in]
            houses = came_to(5, ties)
            if len(houses) < 5:
                self.assertEqual(refusal(self, "Apart", web_of, 5, ties).houses, houses)
            else:
                self.assertEqual(ties_told(web_of(5, ties)), ties)


class TiesTest(unittest.TestCase):
    def test_ties_at(self):
        self.assertEqual(ties_at(LONE, 0), 0)
        self.assertEqual([ties_at(THICK_PAIR, house) for house in (0, 1)], [9, 9])
        self.assertEqual([ties_at(PATH, house) for house in (0, 1, 2)], [1, 2, 1])
        self.assertEqual([ties_at(LOPSIDED, house) for house in (0, 1, 2, 3)], [4, 1, 4, 1])
        self.assertEqual([ties_at(FULL, house) for house in range(7)], [54] * 7)

    def test_ties_of(self):
        self.assertEqual(ties_of(LONE), [])
        self.assertEqual(ties_of(PAIR), [(0, 1, 0)])
        self.assertEqual(ties_of(THICK_PAIR), [(0, 1, nth) for nth in range(9)])
        self.assertEqual(ties_of(TRIANGLE), [(0, 1, 0), (0, 2, 0), (1, 2, 0)])
        self.assertEqual(ties_of(LOPSIDED), [(0, 1, 0), (0, 2, 0), (0, 2, 1), (0, 2, 2), (2, 3, 0)])

    def test_ties_are_sorted_and_each_is_there_once(self):
        for web in WEBS:
            ties = ties_of(web)
            self.assertIs(type(ties), list)
            self.assertEqual({type(tie) for tie in ties} - {tuple}, set())
            self.assertEqual(ties, sorted(set(ties)))
            for a, b in ALL_PAIRS:
                if b < len(web):
                    self.assertEqual([tie[2] for tie in ties if tie[:2] == (a, b)], list(range(web[a][b])))
            self.assertTrue(all(a < b < len(web) for a, b, nth in ties))

    def test_more_than_thirty_ties(self):
        self.assertEqual(len(ties_of(FULL)), 189)
        self.assertEqual(loops(FULL), 183)

    def test_ties_are_a_new_list_each_time(self):
        for web in WEBS:
            new_each_time(self, ties_of, web)

    def test_loops(self):
        self.assertEqual([loops(web) for web in (LONE, PAIR, THICK_PAIR, PATH, TRIANGLE, LOPSIDED)], [0, 0, 8, 0, 1, 2])


if __name__ == "__main__":
    unittest.main()
