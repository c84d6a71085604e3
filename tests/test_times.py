"""Purses of thirty figures take no longer a time than small ones; nor does it take long to count many trees."""

import itertools
import time
import unittest

from purseweb.alike import alike
from purseweb.breaks import broken, lacking
from purseweb.clear import cleared
from purseweb.desk import Desk
from purseweb.parts import parts, place_of, round_of
from purseweb.settle import settle
from purseweb.spare import spare
from purseweb.stills import back, joined, still_of, stills, tree_of
from purseweb.texts import shown_numbers, shown_web
from purseweb.trees import tree_count, trees
from purseweb.webs import loops
from tests.helper import (
    FEW_TIES, FULL, GREAT_ROUND, THIRTY, THIRTY_TIES, TWELVE_TIES, led, refusal, with_total,
)

SMALL_PART = 0.1


def seconds(call, *arguments):
    """The least of some tries: what else the machine does is not counted."""
    tries = []
    for nth in range(5):
        start = time.perf_counter()
        call(*arguments)
        tries.append(time.perf_counter() - start)
    return min(tries)


def great_purses(many=7):
    for signs in itertools.islice(itertools.product((-1, 1), repeat=many), 0, None, 9):
        yield tuple(sign * (THIRTY - house) for house, sign in enumerate(signs))


class TimesTest(unittest.TestCase):
    def test_seven_houses_and_thirty_ties(self):
        for web in THIRTY_TIES:
            self.assertEqual((len(web), sum(map(sum, web))), (7, 60))

    def test_settled(self):
        for web in THIRTY_TIES:
            for purse in great_purses():
                for base in (0, 3, 6):
                    self.assertLess(seconds(settle, web, purse, base), SMALL_PART, (web, purse, base))

    def test_cleared(self):
        for web in THIRTY_TIES:
            for purse in great_purses():
                for total in (-1, 0, sum(purse)):
                    evened = with_total(purse, total)
                    self.assertLess(seconds(cleared, web, evened), SMALL_PART, (web, evened))

    def test_held_against_one_another(self):
        for web in THIRTY_TIES:
            for purse in great_purses():
                reached = led(web, purse, purse[::-1])
                unlike = (purse[0] + 1,) + purse[1:-1] + (purse[-1] - 1,)
                for other in (reached, unlike, (0,) * 7):
                    self.assertLess(seconds(alike, web, purse, other), SMALL_PART, (web, purse, other))

    def test_spared(self):
        for web in FEW_TIES:
            for purse in great_purses(len(web)):
                for total in (-THIRTY, -1, 0, loops(web) - 1, loops(web), 2 * loops(web) - 2, 8, sum(purse)):
                    evened = with_total(purse, total)
                    self.assertLess(seconds(spare, web, evened), SMALL_PART, (web, evened))

    def test_trees_counted(self):
        for web in THIRTY_TIES + (FULL,):
            self.assertLess(seconds(tree_count, web), SMALL_PART, web)

    def test_many_more_trees_than_most_are_refused_without_telling_them(self):
        for most in (0, 300, 10 ** 9):
            for call, arguments in ((trees, (FULL, most)), (stills, (FULL, 3, most))):
                self.assertLess(seconds(refusal, self, "TooMany", call, *arguments), SMALL_PART, (call, most))

    def test_trees_and_still_purses_of_webs_with_many_trees(self):
        for web in THIRTY_TIES:
            for purse in great_purses():
                base = 3
                settled = settle(web, purse, base)[1]
                still = settled[:base] + (0,) + settled[base + 1:]
                self.assertLess(seconds(tree_of, web, base, settled), SMALL_PART, (web, settled))
                self.assertLess(seconds(still_of, web, base, tree_of(web, base, still)), SMALL_PART, (web, still))
                self.assertLess(seconds(joined, web, base, still, still), SMALL_PART, (web, still))
                self.assertLess(seconds(back, web, base, still), SMALL_PART, (web, still))

    def test_parts_places_and_rounds(self):
        for web in THIRTY_TIES + (FULL, GREAT_ROUND):
            self.assertLess(seconds(parts, web), SMALL_PART, web)
            for purse in great_purses():
                self.assertLess(seconds(place_of, web, purse), SMALL_PART, (web, purse))
                self.assertLess(seconds(round_of, web, with_total(purse, 0)), SMALL_PART, (web, purse))
        self.assertEqual(round_of(GREAT_ROUND, (1, -1, 0, 0, 0, 0, 0)), 131345)

    def test_led_to_break_purses(self):
        for web in TWELVE_TIES + THIRTY_TIES + (GREAT_ROUND,):
            for purse in great_purses(len(web)):
                evened = with_total(purse, loops(web))
                self.assertLess(seconds(broken, web, evened), SMALL_PART, (web, evened))
                self.assertLess(seconds(lacking, web, evened), SMALL_PART, (web, evened))

    def test_at_a_desk(self):
        for web in (TWELVE_TIES[0], TWELVE_TIES[2], THIRTY_TIES[0], GREAT_ROUND):
            desk = Desk()
            desk.say("web " + shown_web(web))
            for purse in great_purses(len(web)):
                desk.say("purse a " + shown_numbers(purse))
                desk.say("purse b " + shown_numbers(with_total((0,) * len(web), loops(web))))
                for row in (
                    f"lend b 1 {10 ** 29}", f"lend b 0 -{THIRTY}", f"run b {shown_numbers(purse)}", "settle a 1",
                    "clear a", "clear b", "alike a b", "alike b b", "break b", "plus a a b", "turn a a", "show a",
                    "total a", "trees",
                ):
                    self.assertLess(seconds(desk.say, row), SMALL_PART, (web, purse, row))

    def test_spared_at_a_desk(self):
        for web in FEW_TIES:
            desk = Desk()
            desk.say("web " + shown_web(web))
            for house in range(len(web)):
                desk.say("purse a " + shown_numbers(with_total((0,) * len(web), loops(web) - 1)))
                desk.say(f"lend a {house} {THIRTY}")
                self.assertLess(seconds(desk.say, "spare a"), SMALL_PART, (web, house))


if __name__ == "__main__":
    unittest.main()
