"""Webs, their ties and their loops (points 4 and 5)."""

from purseweb.errors import Apart, NoWeb

MOST_HOUSES = 7
MOST_TIMES = 9


def web_of(many, ties):
    if not 1 <= many <= MOST_HOUSES:
        raise NoWeb(None)
    rows = [[0] * many for house in range(many)]
    for place, tie in enumerate(ties):
        if not fits(rows, tie):
            raise NoWeb(place)
        rows[tie[0]][tie[1]] = tie[2]
        rows[tie[1]][tie[0]] = tie[2]
    web = tuple([tuple(row) for row in rows])
    houses = reached(web)
    if len(houses) < many:
        raise Apart(houses)
    return web


def fits(rows, tie):
    if not 0 <= tie[0] < tie[1] < len(rows):
        return False
    # Each TIMES is 1 at least, so a 0 here says that the pair was not told ahead.
    return 1 <= tie[2] <= MOST_TIMES and rows[tie[0]][tie[1]] == 0


def reached(web):
    found = [0]
    looked = 0
    while looked < len(found):
        row = web[found[looked]]
        found.extend([house for house, times in enumerate(row) if times > 0 and house not in found])
        looked += 1
    return tuple(sorted(found))


def ties_at(web, house):
    return sum(web[house])


def ties_of(web):
    ties = []
    for a, row in enumerate(web):
        for b in range(a + 1, len(web)):
            ties.extend([(a, b, nth) for nth in range(row[b])])
    return ties


def loops(web):
    return len(ties_of(web)) - len(web) + 1
