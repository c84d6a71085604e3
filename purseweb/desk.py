"""A desk, which keeps a web and purses by names and is told rows (point 31)."""

from purseweb.alike import alike
from purseweb.breaks import broken
from purseweb.clear import cleared
from purseweb.errors import NoName, NoRow
from purseweb.lines import is_name, read_line
from purseweb.purses import minus, one_at, plus, run, total, turned
from purseweb.settle import settle
from purseweb.spare import spare
from purseweb.texts import read_web, shown_numbers, shown_web
from purseweb.trees import tree_count
from purseweb.webs import loops

FIRST_WEB = "1:"


def make_purse(web, things):
    return things[1]


def make_plus(web, things):
    return plus(things[1], things[2])


def make_minus(web, things):
    return minus(things[1], things[2])


def make_turn(web, things):
    return turned(web, things[1])


def make_lend(web, things):
    # All at once: who lends time by time doesn't come to an end.
    script = tuple([things[2] * often for often in one_at(web, things[1])])
    return run(web, things[0], script)


def make_run(web, things):
    return run(web, things[0], things[1])


def tell_show(web, things):
    return shown_numbers(things[0])


def tell_total(web, things):
    return str(total(things[0]))


def tell_shown(web, things):
    return shown_web(web)


def tell_settle(web, things):
    told = settle(web, things[0], things[1])
    return " ".join([shown_numbers(told[1]), shown_numbers(told[0])])


def tell_alike(web, things):
    script = alike(web, things[0], things[1])
    return "no" if script is None else shown_numbers(script)


def tell_clear(web, things):
    told = cleared(web, things[0])
    return " ".join([told[0], shown_numbers(told[1]), shown_numbers(told[2])])


def tell_spare(web, things):
    return str(spare(web, things[0])[0])


def tell_trees(web, things):
    return str(tree_count(web))


def tell_loops(web, things):
    return str(loops(web))


def tell_break(web, things):
    return shown_numbers(broken(web, things[0])[1])


# The rows by which a purse is kept, under the name that is their second word, and those by which something is told.
MAKERS = {
    "purse": make_purse,
    "plus": make_plus,
    "minus": make_minus,
    "turn": make_turn,
    "lend": make_lend,
    "run": make_run,
}
TELLERS = {
    "show": tell_show,
    "total": tell_total,
    "shown": tell_shown,
    "settle": tell_settle,
    "alike": tell_alike,
    "clear": tell_clear,
    "spare": tell_spare,
    "trees": tell_trees,
    "loops": tell_loops,
    "break": tell_break,
}


class Desk:
    def __init__(self):
        self.web = read_web(FIRST_WEB)
        self.purses = {}

    def say(self, row):
        line = read_line(row)
        first = line[0]
        words = line[1]
        self.refuse_names(words)
        self.refuse_numbers(words)
        things = [self.purses[word] if kind == "NAME" else word for kind, word in words]
        if first in TELLERS:
            return TELLERS[first](self.web, things)
        if first in MAKERS:
            name = words[0][1]
            self.purses[name] = MAKERS[first](self.web, things)
        else:
            self.keep_web(things[0])
        return "ok"

    def keep_web(self, text):
        self.web = read_web(text)
        self.purses = {}

    def refuse_names(self, words):
        for kind, word in words:
            if (kind == "NEW" and not is_name(word)) or (kind == "NAME" and word not in self.purses):
                raise NoName(f"no such name: {word!r}")

    def refuse_numbers(self, words):
        many = len(self.web)
        for kind, word in words:
            if (kind == "NUMBERS" and len(word) != many) or (kind == "HOUSE" and not 0 <= word < many):
                raise NoRow(f"not for {many} houses: {word!r}")
