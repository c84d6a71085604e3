"""What several test files need: refusals taken and looked at, some webs and purses, and things reckoned apart from
the program."""

import copy
import fractions
import functools
import itertools
import math
import random

from purseweb import errors

NAMES = (
    "NoWeb", "Apart", "NoText", "NoOrder", "TooMany", "NotSettled",
    "NoTree", "NoTotal", "NoEnds", "NoRow", "NoName",
)

ALL_PAIRS = list(itertools.combinations(range(7), 2))

# Written by hand, so that a fault in web_of doesn't hide another one.
LONE = ((0,),)
PAIR = ((0, 1), (1, 0))
THICK_PAIR = ((0, 9), (9, 0))
PATH = ((0, 1, 0), (1, 0, 1), (0, 1, 0))
TRIANGLE = ((0, 1, 1), (1, 0, 1), (1, 1, 0))
LOPSIDED = ((0, 1, 3, 0), (1, 0, 0, 0), (3, 0, 0, 1), (0, 0, 1, 0))
FULL = tuple(tuple(0 if a == b else 9 for b in range(7)) for a in range(7))


def woven(many, *ties):
    """The web of ties (A, B, TIMES)."""
    rows = [[0] * many for house in range(many)]
    for a, b, times in ties:
        rows[a][b] = rows[b][a] = times
    return tuple(map(tuple, rows))


def ring(many):
    return woven(many, (0, many - 1, 1), *[(house, house + 1, 1) for house in range(many - 1)])


def each_two_tied(many):
    return woven(many, *[(a, b, 1) for a, b in ALL_PAIRS if b < many])


WEBS = (LONE, PAIR, THICK_PAIR, PATH, TRIANGLE, LOPSIDED, FULL)
SMALL_WEBS = [web for web in WEBS if len(web) < 5]

# Webs of at most five houses and eight ties.
FEW_TIES = (
    LONE, PAIR, PATH, TRIANGLE, LOPSIDED, ring(4), ring(5), each_two_tied(4),
    woven(2, (0, 1, 2)), woven(2, (0, 1, 5)), woven(2, (0, 1, 8)), woven(3, (0, 2, 4), (1, 2, 4)),
    woven(3, (0, 1, 3), (0, 2, 3), (1, 2, 2)), woven(4, (0, 1, 2), (1, 2, 2), (2, 3, 2), (0, 3, 2)),
    woven(4, (0, 3, 1), (1, 3, 2), (2, 3, 5)),
    woven(4, (0, 1, 2), (0, 2, 1), (0, 3, 1), (1, 2, 1), (1, 3, 1), (2, 3, 2)),
    woven(5, (0, 4, 1), (1, 4, 1), (2, 4, 1), (3, 4, 1)), woven(5, (0, 4, 2), (1, 4, 2), (2, 3, 2), (3, 4, 2)),
    woven(5, (0, 1, 1), (0, 2, 1), (1, 2, 1), (2, 3, 1), (2, 4, 1), (3, 4, 1)),
    woven(5, (0, 1, 1), (0, 2, 1), (0, 3, 1), (0, 4, 1), (1, 2, 1), (2, 3, 1), (3, 4, 1), (1, 4, 1)),
    woven(5, (0, 2, 1), (0, 3, 1), (0, 4, 1), (1, 2, 1), (1, 3, 1), (1, 4, 1), (2, 3, 1), (3, 4, 1)),
)

# Webs of six houses and twelve ties.
TWELVE_TIES = (
    woven(6, (0, 3, 1), (0, 5, 1), (1, 4, 1), (2, 5, 1), *[(a, a + 1, 1) for a in range(5)], (0, 2, 2), (1, 3, 1)),
    woven(6, *[(a, b, 1) for a, b in ALL_PAIRS if b < 6 and b - a != 3]),
    woven(6, (0, 5, 8), (0, 1, 1), (1, 2, 1), (2, 3, 1), (3, 4, 1)),
    woven(6, (0, 1, 1), (1, 2, 1), (2, 3, 1), (3, 4, 1), (4, 5, 8)),
    woven(6, (0, 1, 4), (1, 2, 1), (2, 3, 1), (3, 4, 1), (4, 5, 5)),
    woven(6, (0, 3, 2), (1, 3, 3), (2, 4, 2), (3, 4, 1), (4, 5, 4)),
    woven(6, (0, 1, 2), (1, 2, 2), (2, 3, 2), (3, 4, 2), (4, 5, 2), (0, 5, 2)),
)

THREE_HUNDRED_TREES = woven(6, (0, 1, 1), (0, 3, 3), (0, 4, 2), (1, 5, 1), (2, 4, 3), (2, 5, 3), (3, 4, 1))
ONE_TREE_MORE = woven(5, (0, 1, 1), (0, 2, 3), (0, 3, 3), (0, 4, 3), (1, 3, 1), (2, 4, 2), (3, 4, 2))

# Webs of seven houses and thirty ties on which much is left to be lent, even near the settled purse.
THIRTY_TIES = (
    (
        (0, 1, 0, 1, 0, 9, 7), (1, 0, 0, 0, 0, 1, 9), (0, 0, 0, 1, 0, 0, 0), (1, 0, 1, 0, 0, 0, 0),
        (0, 0, 0, 0, 0, 0, 1), (9, 1, 0, 0, 0, 0, 0), (7, 9, 0, 0, 1, 0, 0),
    ),
    (
        (0, 1, 0, 0, 0, 5, 0), (1, 0, 1, 0, 0, 0, 0), (0, 1, 0, 5, 5, 0, 3), (0, 0, 5, 0, 1, 0, 2),
        (0, 0, 5, 1, 0, 0, 7), (5, 0, 0, 0, 0, 0, 0), (0, 0, 3, 2, 7, 0, 0),
    ),
    (
        (0, 1, 0, 0, 0, 0, 0), (1, 0, 1, 0, 0, 0, 0), (0, 1, 0, 1, 0, 0, 0), (0, 0, 1, 0, 1, 0, 0),
        (0, 0, 0, 1, 0, 9, 8), (0, 0, 0, 0, 9, 0, 9), (0, 0, 0, 0, 8, 9, 0),
    ),
)

# Seven houses and thirty ties, with 131345 trees and a purse whose round is as great: (1, -1, 0, 0, 0, 0, 0).
GREAT_ROUND = (
    (0, 2, 2, 1, 1, 2, 1), (2, 0, 1, 2, 1, 1, 1), (2, 1, 0, 2, 1, 2, 1), (1, 2, 2, 0, 1, 1, 1),
    (1, 1, 1, 1, 0, 1, 3), (2, 1, 2, 1, 1, 0, 2), (1, 1, 1, 1, 3, 2, 0),
)

THIRTY = 10 ** 30 - 1


def some_purses(many):
    """Purses without coins, in debt, uneven, and of thirty figures."""
    yield (0,) * many
    yield (-1,) * many
    yield tuple(range(many))
    yield tuple((-1) ** house * (5 * house + 2) for house in range(many))
    yield tuple((-1) ** house * (THIRTY - house) for house in range(many))


def by_chance(seed, many):
    """Webs of one to seven houses with at most thirty ties, each with two purses and a script: the same each time."""
    chance = random.Random(seed)
    for time in range(many):
        web = web_by_chance(chance, 1 + time % 7)
        yield web, *[numbers_by_chance(chance, len(web)) for kind in ("one", "other", "script")]


def few_by_chance(seed, many):
    """Webs of one to five houses with at most eight ties, each with a purse whose total is at most eight."""
    chance = random.Random(seed)
    for time in range(many):
        web = web_by_chance(chance, 1 + time % 5, 8)
        yield web, with_total(numbers_by_chance(chance, len(web)), chance.randint(-2, 8))


def twelve_by_chance(seed, many):
    """Webs of one to six houses with at most twelve ties, each with a purse whose total is the loops, and a script."""
    chance = random.Random(seed)
    for time in range(many):
        web = web_by_chance(chance, 1 + time % 6, 12)
        purse, script = [numbers_by_chance(chance, len(web)) for kind in ("purse", "script")]
        yield web, with_total(purse, loops_of(web)), script


def with_total(purse, total):
    """The purse with coins or debt for house 0, so that it has this total."""
    return (purse[0] + total - sum(purse),) + purse[1:]


def web_by_chance(chance, houses, most=30):
    rows = [[0] * houses for house in range(houses)]
    pairs = [(chance.randrange(house), house) for house in range(1, houses)]
    if houses > 1:
        pairs += [chance.sample(range(houses), 2) for tie in range(chance.randrange(most + 1 - len(pairs)))]
    for a, b in pairs:
        rows[a][b] = rows[b][a] = min(9, rows[a][b] + 1)
    return tuple(map(tuple, rows))


def numbers_by_chance(chance, many):
    bound = chance.choice((3, 3, 40, THIRTY))
    return tuple(chance.choice((chance.randint(-bound, bound), chance.randint(-3, 3))) for number in range(many))


def led(web, purse, script):
    """Where the script leads, lender by lender."""
    coins = list(purse)
    for lender, row in enumerate(web):
        for other, times in enumerate(row):
            coins[lender] -= times * script[lender]
            coins[other] += times * script[lender]
    return tuple(coins)


def fire_of(web, purse, base):
    fire = [base]
    while True:
        cold = [house for house in range(len(web)) if house not in fire]
        ready = [house for house in cold if purse[house] < sum(web[other][house] for other in fire)]
        if not ready:
            return fire
        fire.append(min(ready))


@functools.lru_cache(maxsize=None)
def inverse(web):
    """The inverse of the web's rows without house 0."""
    size = len(web) - 1
    rows = [
        [fractions.Fraction(sum(web[a]) if a == b else -web[a][b]) for b in range(1, size + 1)]
        + [fractions.Fraction(a == b) for b in range(1, size + 1)]
        for a in range(1, size + 1)
    ]
    for place in range(size):
        rows[place] = [number / rows[place][place] for number in rows[place]]
        for at in range(size):
            if at != place:
                rows[at] = [one - rows[at][place] * other for one, other in zip(rows[at], rows[place])]
    return [row[size:] for row in rows]


def script_between(web, one, other):
    """The least form of the script that leads from the one to the other, by fractions; None where there is none."""
    if sum(one) != sum(other):
        return None
    less = [first - second for first, second in zip(one[1:], other[1:])]
    script = [fractions.Fraction(0)] + [sum(a * b for a, b in zip(row, less)) for row in inverse(web)]
    if any(often.denominator != 1 for often in script):
        return None
    return tuple(int(often - min(script)) for often in script)


@functools.lru_cache(maxsize=None)
def whole_inverse(web):
    """A number, and the inverse with each of its numbers taken so often, all whole."""
    rows = inverse(web)
    by = math.lcm(*[number.denominator for row in rows for number in row])
    return by, [[int(number * by) for number in row] for row in rows]


def class_of(web, purse):
    """Equal for two purses just where lending leads from one to the other."""
    by, rows = whole_inverse(web)
    return sum(purse), tuple(sum(a * b for a, b in zip(row, purse[1:])) % by for row in rows)


def purses_without_debt(many, total):
    """Each one with this total."""
    if many == 1:
        return [(total,)] if total >= 0 else []
    firsts = range(total + 1)
    return [(first,) + rest for first in firsts for rest in purses_without_debt(many - 1, total - first)]


@functools.lru_cache(maxsize=None)
def free_classes(web, total):
    return {class_of(web, purse) for purse in purses_without_debt(len(web), total)}


def is_free(web, purse):
    return class_of(web, purse) in free_classes(web, sum(purse))


def one_of_each_class(web, total):
    """Purses of this total, one of each class of those that lead to one another."""
    found = {}
    for rest in itertools.product(*[range(sum(row)) for row in web[1:]]):
        purse = with_total((0,) + rest, total)
        found.setdefault(class_of(web, purse), purse)
    return list(found.values())


def unit(size):
    return tuple(tuple(int(row == column) for column in range(size)) for row in range(size))


def loops_of(web):
    return len(ends_of(web)) - len(web) + 1


def ends_of(web):
    """The two houses of each tie, in the ties' order."""
    return [(a, b) for a, b in ALL_PAIRS if b < len(web) for nth in range(web[a][b])]


@functools.lru_cache(maxsize=None)
def trees_among(web):
    """Each choice of as many ties as a tree has, looked at by itself."""
    ends = ends_of(web)
    choices = itertools.combinations(range(len(ends)), len(web) - 1)
    return [choice for choice in choices if all_come_to_one_another(len(web), [ends[tie] for tie in choice])]


def all_come_to_one_another(many, ends):
    houses = {0}
    for time in range(many):
        houses |= {house for tie in ends if houses & set(tie) for house in tie}
    return len(houses) == many


def ends_outside(web, tree):
    """The two houses of each tie that is not in the tree, in the ties' order."""
    return [both for tie, both in enumerate(ends_of(web)) if tie not in tree]


def coins_at(web, ends):
    """A coin at each end."""
    return tuple(list(ends).count(house) for house in range(len(web)))


@functools.lru_cache(maxsize=None)
def breaks_among(web):
    """Each purse that is made of a tree and ends."""
    choices = {ends for tree in trees_among(web) for ends in itertools.product(*ends_outside(web, tree))}
    return sorted({coins_at(web, ends) for ends in choices})


def new_each_time(test, call, *arguments):
    """That the list which is told, by itself or last in a tuple, is the asker's own."""
    told = call(*arguments)
    kept = copy.deepcopy(told)
    own = told if isinstance(told, list) else told[-1]
    test.assertIs(type(own), list, arguments)
    own[:1] = ["changed", "by the asker"]
    test.assertEqual(call(*arguments), kept, arguments)


def refusal(test, name, call, *arguments):
    """The error by which the call is refused: of the class of that name and no other one."""
    kept = copy.deepcopy(arguments)
    for taken in (errors.PurseError, ValueError):
        with test.assertRaises(taken, msg=arguments) as caught:
            call(*arguments)
    error = caught.exception
    test.assertEqual([other for other in NAMES if isinstance(error, getattr(errors, other))], [name], arguments)
    test.assertEqual(arguments, kept)
    return error
