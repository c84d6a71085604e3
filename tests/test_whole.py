"""What is promised over the whole program: of all its modules together, and by the texts of a desk."""

import unittest

from purseweb.alike import alike
from purseweb.breaks import break_of, broken, lacking
from purseweb.clear import cleared
from purseweb.desk import Desk
from purseweb.parts import parts, place_of, round_of
from purseweb.purses import minus, order_purse, plus, run, total, turned
from purseweb.settle import settle
from purseweb.spare import spare
from purseweb.stills import back, joined, still_of, stills, tree_of
from purseweb.texts import read_numbers, shown_numbers, shown_web
from purseweb.trees import tree_count, trees
from purseweb.webs import loops
from tests.helper import (
    FEW_TIES, THICK_PAIR, breaks_among, by_chance, few_by_chance, one_of_each_class, some_purses, twelve_by_chance,
    with_total,
)

SOME_WEBS = FEW_TIES + (THICK_PAIR,)


def with_base(purse, base, sum_of_all):
    """The purse with coins or debt for the base, so that it has this total."""
    return purse[:base] + (purse[base] + sum_of_all - sum(purse),) + purse[base + 1:]


class LeadingTest(unittest.TestCase):
    def test_two_purses_lead_to_one_another_or_their_settled_ones_are_unlike(self):
        told = set()
        for web, one, other, script in by_chance(131, 300):
            for purse in (other, with_total(other, sum(one)), run(web, one, script)):
                way = alike(web, one, purse)
                for base in range(len(web)):
                    same = settle(web, one, base)[1] == settle(web, purse, base)[1]
                    self.assertEqual(same, way is not None, (web, one, purse, base))
                self.assertEqual(place_of(web, one) == place_of(web, purse), way is not None, (web, one, purse))
                if way is not None:
                    self.assertEqual(run(web, one, way), purse, (web, one, purse))
                told.add(way is None)
        self.assertEqual(told, {True, False})

    def test_debt_is_cleared_or_an_order_shows_that_it_never_is(self):
        told = set()
        for web, one, other, script in by_chance(132, 300):
            for purse in (one, with_total(one, 0), with_total(one, loops(web) - 1), with_total(other, loops(web))):
                kind, way, last = cleared(web, purse)
                reached = run(web, purse, way)
                if kind == "free":
                    self.assertEqual((reached, min(reached) >= 0), (last, True), (web, purse))
                else:
                    self.assertLessEqual(max(minus(reached, order_purse(web, last))), 0, (web, purse))
                told.add(kind)
        self.assertEqual(told, {"free", "never"})

    def test_settling_and_breaking_lead_there_and_back(self):
        for web, purse, script in twelve_by_chance(133, 200):
            base = len(web) // 2
            settled = settle(web, purse, base)[1]
            reached = broken(web, purse)[1]
            self.assertIsNone(lacking(web, reached), (web, purse))
            self.assertEqual(broken(web, settled)[1], reached, (web, purse))
            self.assertEqual(settle(web, reached, base)[1], settled, (web, purse))
            way = alike(web, settled, reached)
            self.assertEqual(run(web, settled, way), reached, (web, purse))
            self.assertEqual(place_of(web, settled), place_of(web, reached), (web, purse))

    def test_what_is_handed_in_is_not_changed(self):
        for web, purse, script in twelve_by_chance(134, 60):
            handed = [list(map(tuple, web)), tuple(purse), tuple(script)]
            tree, ends = broken(web, purse)[2:]
            kept = (tuple(tree), tuple(ends))
            break_of(web, tree, ends)
            lacking(web, purse)
            parts(web)
            place_of(web, script)
            round_of(web, with_total(script, 0))
            self.assertEqual([list(web), purse, script], handed)
            self.assertEqual((tree, ends), kept)


class OneToOneTest(unittest.TestCase):
    def test_trees_and_settled_purses_and_break_purses(self):
        for web in SOME_WEBS:
            for base in range(len(web)):
                settled = [with_base(still, base, loops(web)) for still in stills(web, base)]
                self.assertEqual(len(settled), tree_count(web), web)
                self.assertEqual(sorted(tree_of(web, base, purse) for purse in settled), trees(web), web)
                self.assertEqual(sorted(broken(web, purse)[1] for purse in settled), breaks_among(web), web)
                self.assertEqual(len({place_of(web, purse) for purse in settled}), len(settled), web)

    def test_from_a_tree_by_its_break_purse_and_back(self):
        for web in SOME_WEBS:
            for base in range(len(web)):
                for tree in trees(web):
                    purse = with_base(still_of(web, base, tree), base, loops(web))
                    told = broken(web, purse)
                    self.assertEqual(break_of(web, told[2], told[3]), told[1], (web, base, tree))
                    self.assertEqual(tree_of(web, base, settle(web, told[1], base)[1]), tree, (web, base, tree))

    def test_as_many_settled_purses_of_any_total_as_trees(self):
        for web in SOME_WEBS:
            for number in (-3, 0, 4):
                purses = one_of_each_class(web, number)
                for base in range(len(web)):
                    settled = {settle(web, purse, base)[1] for purse in purses}
                    self.assertEqual(len(settled), tree_count(web), (web, base, number))
                    self.assertEqual(sorted(tree_of(web, base, purse) for purse in settled), trees(web))

    def test_the_round_of_a_still_purse_is_how_often_it_is_joined(self):
        for web in SOME_WEBS:
            for still in stills(web, 0):
                often = 1
                reached = still
                while any(reached):
                    reached = joined(web, 0, reached, still)
                    often += 1
                self.assertEqual(round_of(web, with_base(still, 0, 0)), often, (web, still))
                self.assertEqual(round_of(web, with_base(back(web, 0, still), 0, 0)), often, (web, still))

    def test_places_are_put_together_as_purses_are(self):
        for web, one, other, script in by_chance(135, 150):
            row = parts(web)[4]
            sums = plus(place_of(web, one), place_of(web, other))
            rests = tuple(number % by for number, by in zip(sums[1:], row))
            self.assertEqual(place_of(web, plus(one, other)), sums[:1] + rests, (web, one, other))


class DeskTest(unittest.TestCase):
    def assert_spared_by_texts(self, web, purse):
        desk = Desk()
        desk.say("web " + shown_web(web))
        desk.say("purse a " + shown_numbers(purse))
        desk.say("turn b a")
        spared, turned_spared, sum_of_all, many = [
            int(desk.say(row)) for row in ("spare a", "spare b", "total a", "loops")
        ]
        self.assertEqual(spared - turned_spared, sum_of_all + 1 - many, (web, purse))
        self.assertEqual((spared, turned_spared), (spare(web, purse)[0], spare(web, turned(web, purse))[0]))
        self.assertEqual(spared == -1, desk.say("clear a").startswith("never "), (web, purse))

    def test_what_is_spared_by_the_texts_of_a_desk(self):
        for web in FEW_TIES:
            for number in range(-2, min(8, 2 * loops(web) + 2) + 1):
                for purse in one_of_each_class(web, number)[:12]:
                    self.assert_spared_by_texts(web, purse)

    def test_what_is_spared_on_webs_by_chance(self):
        for web, purse in few_by_chance(136, 150):
            if max(map(abs, purse)) < 10 ** 30:
                self.assert_spared_by_texts(web, purse)

    def test_there_and_back_by_the_texts_of_a_desk(self):
        for web in SOME_WEBS:
            desk = Desk()
            desk.say("web " + shown_web(web))
            for purse in some_purses(len(web)):
                evened = with_total(tuple(coins // 100 for coins in purse), loops(web))
                desk.say("purse a " + shown_numbers(evened))
                desk.say("purse b " + desk.say("break a"))
                self.assertEqual(desk.say("break b"), desk.say("show b"), (web, evened))
                for base in range(len(web)):
                    settled, script = desk.say(f"settle b {base}").split(" ")
                    self.assertEqual(desk.say(f"settle a {base}").split(" ")[0], settled, (web, evened))
                    desk.say("purse c " + desk.say("show b"))
                    desk.say(f"run c {script}")
                    self.assertEqual(desk.say("show c"), settled, (web, evened))
                    self.assertEqual(desk.say("alike b c"), script, (web, evened))
                desk.say("run a " + desk.say("alike a b"))
                self.assertEqual(desk.say("show a"), desk.say("show b"), (web, evened))
                self.assertEqual(total(read_numbers(desk.say("show a"))), int(desk.say("loops")))


if __name__ == "__main__":
    unittest.main()
