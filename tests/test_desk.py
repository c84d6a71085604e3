import itertools
import random
import string
import unittest

from purseweb.breaks import broken
from purseweb.clear import cleared
from purseweb.desk import Desk
from purseweb.settle import settle
from purseweb.spare import spare
from purseweb.texts import shown_web
from purseweb.trees import tree_count
from tests.helper import (
    FEW_TIES, FULL, THIRTY, THIRTY_TIES, WEBS, breaks_among, class_of, fire_of, led, loops_of,
    numbers_by_chance, refusal, script_between, some_purses, twelve_by_chance, web_by_chance, with_total,
)

LOPSIDED_TEXT = "4: 0-1 0-2*3 2-3"

# Right in all but what is put in their place.
ROWS = (
    "purse {new} {numbers}", "plus {new} {name} {name}", "minus {new} {name} {name}", "turn {new} {name}",
    "lend {name} {house} {times}", "run {name} {numbers}", "show {name}", "total {name}", "shown",
    "settle {name} {house}", "alike {name} {name}", "clear {name}", "spare {name}", "trees", "loops", "break {name}",
)
RIGHT = {"new": "new", "name": "a", "numbers": "1,1,0,0", "house": "2", "times": "3"}

NO_NAMES = ("", "A", "aB", "abcdefghi", "a1", "a-b", "a_b", "1", "a,", "a\n", "\ta", "a.b", "-", "abcdefghA")
NO_NUMBERS = (
    "", "-", "x", "+1", "01", "-01", "-0", "00", "1.0", "1e3", "1_0", "0x1", "1\n", "\n1", "\t1", "--1", "1-",
    "1" + "0" * 30, "-1" + "0" * 30, "one", "a",
)


def written(numbers):
    return ",".join(map(str, numbers))


def numbers_of(text):
    return tuple(map(int, text.split(",")))


def filled(row, **others):
    words = row
    for key, word in (RIGHT | others).items():
        words = words.replace("{" + key + "}", word)
    return words


def in_thirty_figures(purse, total):
    """The purse with this total, cut so that each of its numbers can be written at a desk."""
    evened = with_total(purse, total)
    if max(map(abs, evened)) <= THIRTY:
        return evened
    return with_total(tuple(coins // 100 for coins in purse), total)


def desk_with(text, **purses):
    desk = Desk()
    desk.say("web " + text)
    for name, numbers in purses.items():
        desk.say(f"purse {name} {numbers}")
    return desk


def lopsided_desk():
    """With a purse whose total is the loops."""
    return desk_with(LOPSIDED_TEXT, a="1,1,0,0", other="5,-2,0,1")


class DeskCase(unittest.TestCase):
    def said(self, desk, row):
        told = desk.say(row)
        self.assertIs(type(told), str, row)
        return told

    def kept(self, desk, names):
        """All that a desk keeps, as far as it shows it; None for a name by which no purse stands."""
        found = {}
        for name in names:
            try:
                found[name] = desk.say(f"show {name}")
            except ValueError:
                found[name] = None
        return desk.say("shown"), found

    def refused(self, name, desk, row):
        names = ["a", "other", "new"] + [word for word in row.split(" ") if word.isalpha()]
        ahead = self.kept(desk, names)
        error = refusal(self, name, desk.say, row)
        self.assertEqual(self.kept(desk, names), ahead, row)
        return error


class WebRowTest(DeskCase):
    def test_the_first_web_is_one_house(self):
        desk = Desk()
        self.assertEqual(self.said(desk, "shown"), "1:")
        self.assertEqual(self.said(desk, "trees"), "1")
        self.assertEqual(self.said(desk, "loops"), "0")
        self.refused("NoName", desk, "show a")
        self.refused("NoRow", desk, "purse a 1,2")
        self.assertEqual(self.said(desk, "purse a 5"), "ok")
        self.assertEqual(self.said(desk, "lend a 0 3"), "ok")
        self.assertEqual(self.said(desk, "show a"), "5")
        self.assertEqual(self.said(desk, "spare a"), "5")
        self.assertEqual(self.said(desk, "turn b a"), "ok")
        self.assertEqual(self.said(desk, "show b"), "-7")
        self.assertEqual(self.said(desk, "settle b 0"), "-7 0")
        self.assertEqual(self.said(desk, "clear b"), "never 0 0")
        self.assertEqual(self.said(desk, "minus c a a"), "ok")
        self.assertEqual(self.said(desk, "break c"), "0")

    def test_webs_are_kept_and_shown(self):
        desk = Desk()
        for web in WEBS + THIRTY_TIES + FEW_TIES:
            text = shown_web(web)
            self.assertEqual(self.said(desk, f"web {text}"), "ok")
            self.assertEqual(self.said(desk, "shown"), text)
            self.assertEqual(self.said(desk, "trees"), str(tree_count(web)))
            self.assertEqual(self.said(desk, "loops"), str(loops_of(web)))

    def test_ties_in_any_order_are_shown_sorted(self):
        desk = desk_with("4: 2-3 0-2*3 0-1")
        self.assertEqual(self.said(desk, "shown"), LOPSIDED_TEXT)

    def test_trees_and_loops_are_counted(self):
        desk = lopsided_desk()
        self.assertEqual((self.said(desk, "trees"), self.said(desk, "loops")), ("3", "2"))
        desk.say("web " + shown_web(FULL))
        self.assertEqual((self.said(desk, "trees"), self.said(desk, "loops")), (str(7 ** 5 * 9 ** 6), "183"))

    def test_with_a_new_web_no_purses_are_kept(self):
        for text in (LOPSIDED_TEXT, "4: 0-1 1-2 2-3", "1:", "2: 0-1"):
            desk = lopsided_desk()
            self.assertEqual(self.said(desk, f"web {text}"), "ok")
            self.assertEqual(self.kept(desk, ("a", "other")), (text, {"a": None, "other": None}))
            self.refused("NoName", desk, "show a")

    def test_what_is_no_web_is_refused_as_it_is_read(self):
        desk = lopsided_desk()
        for text in (
            "", " ", "4", " 1:", "1: ", "web 1:", "4:  0-1", "04:", "4: 0-1*1", "4: 0-1*0", "4: 0-1 ", "4: 0-1\n", "x",
            "a 1,1,1,1", "0-1 4:", "4:0-1", "100:", "shown",
        ):
            self.refused("NoText", desk, f"web {text}")
        for text, place in (
            ("0:", None), ("8:", None), ("99: 5-5", None), ("2: 0-2", 0), ("2: 1-0", 0), ("2: 0-1 0-1", 1),
            ("3: 0-1*10", 0), ("3: 0-1 1-1", 1), ("3: 0-1 0-2*99", 1),
        ):
            self.assertEqual(self.refused("NoWeb", desk, f"web {text}").place, place, text)
        self.assertEqual(self.refused("Apart", desk, "web 4: 0-2 1-3").houses, (0, 2))
        self.assertEqual(self.refused("Apart", desk, "web 2:").houses, (0,))
        self.assertEqual(self.said(desk, "show a"), "1,1,0,0")

    def test_web_by_itself_is_no_row(self):
        desk = lopsided_desk()
        for row in ("web", "webs", "web:", "web\t1:", "Web 1:", " web 1:", "web4: 0-1", "web1:"):
            self.refused("NoRow", desk, row)


class PurseRowTest(DeskCase):
    def test_purses_are_kept_and_shown(self):
        desk = lopsided_desk()
        for numbers in ("0,0,0,0", "-1,2,-3,4", f"{THIRTY},-{THIRTY},0,10", "7,7,7,7"):
            for name in ("a", "b", "abcdefgh", "zzzzzzzz", "show", "web", "no", "free"):
                self.assertEqual(self.said(desk, f"purse {name} {numbers}"), "ok")
                self.assertEqual(self.said(desk, f"show {name}"), numbers)
                self.assertEqual(self.said(desk, f"total {name}"), str(sum(numbers_of(numbers))))
        self.assertEqual(self.said(desk, "show other"), "5,-2,0,1")

    def test_names_that_are_beginnings_of_others(self):
        desk = desk_with("2: 0-1")
        names = ["abcdefgh"[:many] for many in range(1, 9)]
        for many, name in enumerate(names):
            self.assertEqual(self.said(desk, f"purse {name} {many},0"), "ok")
        for many, name in enumerate(names):
            self.assertEqual(self.said(desk, f"show {name}"), f"{many},0")
        self.assertEqual(self.said(desk, "lend abc 0 1"), "ok")
        self.assertEqual([self.said(desk, f"show {name}") for name in names[1:4]], ["1,0", "1,1", "3,0"])
        self.refused("NoName", desk, "show bc")
        self.refused("NoName", desk_with("2: 0-1", ab="1,2"), "show a")
        self.refused("NoName", desk_with("2: 0-1", ab="1,2"), "show abc")

    def test_each_small_letter_is_a_name(self):
        desk = desk_with("1:")
        for place, letter in enumerate(string.ascii_lowercase):
            self.assertEqual(self.said(desk, f"purse {letter} {place}"), "ok")
        for place, letter in enumerate(string.ascii_lowercase):
            self.assertEqual(self.said(desk, f"show {letter}"), str(place))

    def test_plus_minus_and_turn(self):
        desk = lopsided_desk()
        for row, name, numbers in (
            ("plus new a other", "new", "6,-1,0,1"), ("minus new a other", "new", "-4,3,0,-1"),
            ("minus new other a", "new", "4,-3,0,1"), ("turn new a", "new", "1,-2,2,-1"),
            ("turn new new", "new", "1,1,0,0"), ("plus new new new", "new", "2,2,0,0"),
            ("minus a a a", "a", "0,0,0,0"), ("plus other a new", "other", "2,2,0,0"),
        ):
            self.assertEqual(self.said(desk, row), "ok")
            self.assertEqual(self.said(desk, f"show {name}"), numbers, row)
        self.assertEqual(self.said(desk, "show a"), "0,0,0,0")

    def test_lend_and_run(self):
        desk = lopsided_desk()
        for row, numbers in (
            ("lend a 0 1", "-3,2,3,0"), ("lend a 0 -1", "1,1,0,0"), ("lend a 0 0", "1,1,0,0"),
            ("lend a 3 2", "1,1,2,-2"), ("lend a 3 -2", "1,1,0,0"), ("lend a 2 -3", "-8,1,12,-3"),
            ("run a 0,0,3,0", "1,1,0,0"), ("run a 1,2,3,4", "8,0,-5,-1"), ("run a -1,-2,-3,-4", "1,1,0,0"),
            ("run a 5,5,5,5", "1,1,0,0"),
        ):
            self.assertEqual(self.said(desk, row), "ok")
            self.assertEqual(self.said(desk, "show a"), numbers, row)
        self.assertEqual(self.said(desk, "show other"), "5,-2,0,1")

    def test_lending_many_times_at_once(self):
        desk = desk_with("3: 0-1 0-2*2 1-2", a="1,2,3")
        many = 10 ** 29
        self.assertEqual(self.said(desk, f"lend a 0 {many}"), "ok")
        self.assertEqual(self.said(desk, "show a"), written((1 - 3 * many, 2 + many, 3 + 2 * many)))
        self.assertEqual(self.said(desk, f"lend a 0 -{many}"), "ok")
        self.assertEqual(self.said(desk, "show a"), "1,2,3")
        self.assertEqual(self.said(desk, f"lend a 1 -{THIRTY}"), "ok")
        self.assertEqual(self.said(desk, "show a"), written((1 - THIRTY, 2 + 2 * THIRTY, 3 - THIRTY)))
        self.assertEqual(self.said(desk, f"run a 0,{THIRTY},0"), "ok")
        self.assertEqual(self.said(desk, "show a"), "1,2,3")

    def test_what_a_desk_keeps_over_many_rows(self):
        chance = random.Random(121)
        for time in range(40):
            web = web_by_chance(chance, 1 + time % 7)
            desk = desk_with(shown_web(web))
            purses = {}
            for row in range(60):
                word, expected = self.row_by_chance(chance, web, purses)
                self.assertEqual(self.said(desk, word), "ok")
                purses.update(expected)
                for name, purse in purses.items():
                    self.assertEqual(self.said(desk, f"show {name}"), written(purse), (web, word))
                    self.assertEqual(self.said(desk, f"total {name}"), str(sum(purse)), (web, word))

    def row_by_chance(self, chance, web, purses):
        """A row that changes a purse, and what stands then by its name."""
        new = chance.choice(("a", "aa", "b", "ab", "abcdefgh"))
        numbers = numbers_by_chance(chance, len(web))
        if not purses or chance.random() < 0.2:
            return f"purse {new} {written(numbers)}", {new: numbers}
        one, other = [chance.choice(sorted(purses)) for name in ("one", "other")]
        both = list(zip(purses[one], purses[other]))
        house = chance.randrange(len(web))
        alone = tuple(numbers[0] * (house == each) for each in range(len(web)))
        return chance.choice((
            (f"plus {new} {one} {other}", {new: tuple(a + b for a, b in both)}),
            (f"minus {new} {one} {other}", {new: tuple(a - b for a, b in both)}),
            (f"turn {new} {one}", {new: tuple(sum(row) - 2 - coins for row, coins in zip(web, purses[one]))}),
            (f"lend {one} {house} {numbers[0]}", {one: led(web, purses[one], alone)}),
            (f"run {one} {written(numbers)}", {one: led(web, purses[one], numbers)}),
        ))


class TellingRowTest(DeskCase):
    def assert_nothing_kept(self, desk, row):
        names = ("a", "b", "other", "new")
        ahead = self.kept(desk, names)
        told = self.said(desk, row)
        self.assertEqual(self.kept(desk, names), ahead, row)
        self.assertEqual(self.said(desk, row), told)
        return told

    def test_told_texts(self):
        desk = desk_with(LOPSIDED_TEXT, a="1,1,1,1", b="-3,2,4,1", other="1,0,-1,0", new="1,1,0,0")
        for row, text in (
            ("show a", "1,1,1,1"), ("total b", "4"), ("total other", "0"), ("shown", LOPSIDED_TEXT),
            ("settle a 3", "2,0,0,2 1,2,1,0"), ("alike a b", "1,0,0,0"), ("alike b a", "0,1,1,1"),
            ("alike a a", "0,0,0,0"), ("alike a other", "no"), ("spare a", "2"), ("spare other", "-1"),
            ("trees", "3"), ("loops", "2"),
            ("break new", "2,0,0,0"),
        ):
            self.assertEqual(self.assert_nothing_kept(desk, row), text, row)

    def test_settle(self):
        for web in WEBS:
            for purse in some_purses(len(web)):
                desk = desk_with(shown_web(web), a=written(purse))
                for base in range(len(web)):
                    settled, script = self.assert_nothing_kept(desk, f"settle a {base}").split(" ")
                    self.assertEqual((numbers_of(script), numbers_of(settled)), settle(web, purse, base)[:2])
                    self.assertEqual(led(web, purse, numbers_of(script)), numbers_of(settled))
                    self.assertEqual(len(fire_of(web, numbers_of(settled), base)), len(web))

    def test_alike(self):
        told = set()
        for web, great, script in twelve_by_chance(122, 120):
            purse, other = [in_thirty_figures(numbers, sum(great)) for numbers in (great, script)]
            desk = desk_with(shown_web(web), a=written(purse), b=written(purse), other=written(other))
            desk.say(f"run b {written(script)}")
            for name, numbers in (("b", led(web, purse, script)), ("other", other)):
                way = script_between(web, purse, numbers)
                text = self.assert_nothing_kept(desk, f"alike a {name}")
                self.assertEqual(text, "no" if way is None else written(way), (web, purse, numbers))
                told.add(text == "no")
        self.assertEqual(told, {True, False})

    def test_clear(self):
        told = set()
        for web, purse, script in twelve_by_chance(123, 120):
            for total in (-1, 0, sum(purse) - 1, sum(purse)):
                evened = in_thirty_figures(purse, total)
                desk = desk_with(shown_web(web), a=written(evened))
                kind, way, last = self.assert_nothing_kept(desk, "clear a").split(" ")
                parts = cleared(web, evened)
                self.assertEqual((kind, way, last), (parts[0], written(parts[1]), written(parts[2])), (web, evened))
                reached = led(web, evened, numbers_of(way))
                if kind == "free":
                    self.assertEqual(numbers_of(last), reached)
                    self.assertGreaterEqual(min(reached), 0)
                else:
                    self.assertEqual(kind, "never")
                    self.assertEqual(sorted(numbers_of(last)), list(range(len(web))))
                told.add(kind)
        self.assertEqual(told, {"free", "never"})

    def test_spare(self):
        for web in FEW_TIES:
            for total in range(-1, 5):
                purse = with_total(tuple(range(len(web))), total)
                desk = desk_with(shown_web(web), a=written(purse))
                self.assertEqual(self.assert_nothing_kept(desk, "spare a"), str(spare(web, purse)[0]), (web, purse))

    def test_break(self):
        for web in FEW_TIES:
            for purse in some_purses(len(web)):
                evened = in_thirty_figures(purse, loops_of(web))
                desk = desk_with(shown_web(web), a=written(evened))
                reached = numbers_of(self.assert_nothing_kept(desk, "break a"))
                self.assertIn(reached, breaks_among(web), (web, evened))
                self.assertEqual(class_of(web, reached), class_of(web, evened), (web, evened))
                self.assertEqual(reached, broken(web, evened)[1])

    def test_break_of_another_total_is_refused(self):
        desk = lopsided_desk()
        self.assertEqual(self.refused("NoTotal", desk, "break other").total, 4)
        for total in (0, 1, 3, -2, THIRTY):
            desk.say(f"purse a {total},0,0,0")
            self.assertEqual(self.refused("NoTotal", desk, "break a").total, total)


class RefusedRowTest(DeskCase):
    def test_all_rows_are_right_as_they_stand(self):
        self.assertEqual(len(ROWS), 16)
        for row in ROWS:
            self.assertNotEqual(self.said(lopsided_desk(), filled(row)), "", row)

    def test_no_row_by_its_first_word(self):
        desk = lopsided_desk()
        for row in (
            "", " ", "  ", "x", "a", "Show a", "SHOW a", "showa", "sho a", "shows a", "show\ta", "show\na", "show,a",
            "help", "1", "ok", "tree", "loop", "still a", "burn a 0", "square", "parts", "place a", "round a",
            "broken a", "least a", "shown\n", "\nshown", "turned new a", "settled a 0", "cleared a", "lent a 0 1",
            "minu new a a", "purses a 1,1,1,1",
        ):
            self.refused("NoRow", desk, row)

    def test_no_row_by_the_number_of_its_words(self):
        for row in ROWS:
            desk = lopsided_desk()
            words = filled(row).split(" ")
            for many in range(1, len(words)):
                self.refused("NoRow", desk, " ".join(words[:many]))
            for more in ("a", "0", "", "1,1,0,0"):
                self.refused("NoRow", desk, " ".join(words + [more]))
            self.refused("NoRow", desk, " ".join(words + ["a", "a"]))

    def test_words_without_signs(self):
        desk = lopsided_desk()
        for row in ROWS:
            words = filled(row).split(" ")
            # Each a word too many.
            for place in range(len(words) + 1):
                self.refused("NoRow", desk, " ".join(words[:place] + [""] + words[place:]))
            # In the place of another one.
            for place, asked in enumerate(row.split(" ")):
                name = "NoName" if asked in ("{new}", "{name}") else "NoRow"
                self.refused(name, desk, " ".join(words[:place] + [""] + words[place + 1:]))

    def test_blanks_by_hand(self):
        desk = lopsided_desk()
        for row, name in (
            ("show ", "NoName"), ("show  ", "NoRow"), (" show a", "NoRow"), ("show a ", "NoRow"), ("show  a", "NoRow"),
            ("shown ", "NoRow"), (" shown", "NoRow"), ("alike a ", "NoName"), ("alike  a", "NoName"),
            ("alike  ", "NoName"),
            ("purse  1,1,1,1", "NoName"), ("purse new ", "NoRow"), ("purse  ", "NoRow"), ("lend a  1", "NoRow"),
            ("lend  0 1", "NoName"), ("lend a 0 ", "NoRow"), ("plus  a a", "NoName"), ("trees ", "NoRow"),
            ("purse new 1,1, 1,1", "NoRow"), ("purse new 1, 1,1,1", "NoRow"),
        ):
            self.refused(name, desk, row)

    def test_numbers_that_are_not_so_written(self):
        desk = lopsided_desk()
        for row in ROWS:
            for wrong in NO_NUMBERS:
                if "{numbers}" in row:
                    for place in range(4):
                        numbers = ["1", "0", "-2", "3"]
                        numbers[place] = wrong
                        self.refused("NoRow", desk, filled(row, numbers=",".join(numbers)))
                    self.refused("NoRow", desk, filled(row, numbers=wrong))
                for key in ("house", "times"):
                    if "{" + key + "}" in row:
                        self.refused("NoRow", desk, filled(row, **{key: wrong}))
                        self.refused("NoRow", desk, filled(row, **{key: "1,1"}))
                        self.refused("NoRow", desk, filled(row, **{key: "1,"}))

    def test_what_is_no_name(self):
        desk = lopsided_desk()
        for row in ROWS:
            if "{new}" in row:
                for wrong in NO_NAMES:
                    self.refused("NoName", desk, filled(row, new=wrong))

    def test_names_by_which_no_purse_stands(self):
        desk = lopsided_desk()
        for row in ROWS:
            for wrong in NO_NAMES + ("b", "aa", "new", "othe", "others", "o", "nosuch"):
                for place in range(row.count("{name}")):
                    cut = row.split("{name}")
                    words = "{name}".join(cut[:place + 1]) + wrong + "{name}".join(cut[place + 1:])
                    self.refused("NoName", desk, filled(words))

    def test_numbers_with_another_count_than_houses(self):
        desk = lopsided_desk()
        for row in ("purse new {numbers}", "purse a {numbers}", "run a {numbers}"):
            for many in (1, 2, 3, 5, 6, 7, 8, 40):
                self.refused("NoRow", desk, filled(row, numbers=",".join(["1"] * many)))

    def test_houses_that_are_none(self):
        desk = lopsided_desk()
        for house in (-THIRTY, -5, -4, -2, -1, 4, 5, 7, 10, THIRTY):
            self.refused("NoRow", desk, f"settle a {house}")
            self.refused("NoRow", desk, f"lend a {house} 1")
            self.refused("NoRow", desk, f"lend a {house} 0")
        for house in range(4):
            self.said(desk, f"settle a {house}")
            self.said(desk, f"lend a {house} 0")

    def test_thirty_figures_are_taken(self):
        desk = lopsided_desk()
        for number in (THIRTY, -THIRTY, 10 ** 29, 0):
            self.assertEqual(self.said(desk, f"purse new {number},0,0,{number}"), "ok")
            self.assertEqual(self.said(desk, f"run new {number},0,0,0"), "ok")
            self.assertEqual(self.said(desk, f"lend new 1 {number}"), "ok")

    def test_the_order_of_refusals(self):
        desk = lopsided_desk()
        for row, name in (
            # The writing comes ahead of the name.
            ("purse A 1,x,1,1", "NoRow"), ("purse A 01", "NoRow"), ("run nosuch -0,1,1,1", "NoRow"),
            ("lend nosuch x 1", "NoRow"), ("lend nosuch 0 x", "NoRow"), ("settle nosuch 00", "NoRow"),
            ("show nosuch nosuch", "NoRow"), ("plus A nosuch", "NoRow"), ("shew nosuch", "NoRow"),
            # The name comes ahead of counts and houses.
            ("purse A 1,1", "NoName"), ("purse A 1", "NoName"), ("run nosuch 1", "NoName"),
            ("run nosuch 1,1,1,1,1", "NoName"), ("lend nosuch 4 1", "NoName"),
            ("lend nosuch -1 1", "NoName"), ("settle nosuch 9", "NoName"),
            ("settle A -1", "NoName"),
            # The name comes ahead of what the stages refuse, and so do the words.
            ("break nosuch", "NoName"), ("break other a", "NoRow"), ("break other", "NoTotal"), ("web", "NoRow"),
            ("web ", "NoText"),
        ):
            self.refused(name, desk, row)
        self.assertEqual(self.kept(desk, ("a", "other", "new")), (
            LOPSIDED_TEXT, {"a": "1,1,0,0", "other": "5,-2,0,1", "new": None},
        ))

    def test_a_refused_row_makes_no_name(self):
        desk = desk_with("2: 0-1", a="1,2")
        for row in (
            "purse b 1", "purse b 1,2,3", "purse b x,1", "plus b a nosuch", "plus b nosuch a", "minus b nosuch nosuch",
            "turn b nosuch", "run b 1,1", "lend b 0 1",
        ):
            refusal(self, "NoName" if "nosuch" in row or row[0] in "rl" else "NoRow", desk.say, row)
            refusal(self, "NoName", desk.say, "show b")


class TwoDesksTest(DeskCase):
    def test_they_keep_nothing_of_one_another(self):
        one = Desk()
        other = Desk()
        one.say("web 2: 0-1")
        one.say("purse a 1,2")
        self.assertEqual(self.said(other, "shown"), "1:")
        self.refused("NoName", other, "show a")
        other.say("purse a 7")
        other.say("purse b 8")
        self.assertEqual(self.said(one, "show a"), "1,2")
        self.refused("NoName", one, "show b")
        one.say("lend a 0 1")
        self.assertEqual((self.said(one, "show a"), self.said(other, "show a")), ("0,3", "7"))
        other.say("web 3: 0-1 1-2")
        self.assertEqual((self.said(one, "shown"), self.said(one, "show a")), ("2: 0-1", "0,3"))
        third = Desk()
        self.assertEqual(self.said(third, "shown"), "1:")
        self.refused("NoName", third, "show a")

    def test_rows_told_to_two_desks_by_turns(self):
        desks = [desk_with(LOPSIDED_TEXT, a="1,1,0,0"), desk_with("3: 0-1 0-2 1-2", a="1,2,3")]
        for row, desk in itertools.product(("lend a 0 1", "turn b a", "plus a a b"), desks):
            self.assertEqual(self.said(desk, row), "ok")
        self.assertEqual([self.said(desk, "show a") for desk in desks], ["2,-1,2,-1", "0,0,0"])
        self.assertEqual([self.said(desk, "show b") for desk in desks], ["5,-3,-1,-1", "1,-3,-4"])


if __name__ == "__main__":
    unittest.main()
