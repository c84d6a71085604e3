"""What a purse can spare, with a script and an order that show it (points 16 to 18)."""

from purseweb.clear import cleared
from purseweb.purses import least, minus, one_at, plus, total, turned
from purseweb.settle import settle
from purseweb.webs import loops

BASE = 0


def spare(web, purse):
    # Of a purse and its turned one, the one with the lower total has fewer takings to look through.
    if total(purse) < loops(web):
        return searched(web, purse)
    return turned_about(web, purse, searched(web, turned(web, purse)))


def searched(web, purse):
    taking = least_taking(web, purse)
    never = cleared(web, minus(purse, taking))
    # The script leads what is left to a purse that has at no house more than the order's. So it leads the purse to
    # one that has at most the taking's coins more; nor fewer, as where just those are taken it isn't free any more.
    return (total(taking) - 1, never[1], never[2])


def least_taking(web, purse):
    # A taking with the least total that leaves a purse that is not free.
    settled = settle(web, purse, BASE)[1]
    takings = {settled: (0,) * len(web)}
    while min([left[BASE] for left in takings]) >= 0:
        takings = greater_by_one(web, takings)
    return [taking for left, taking in takings.items() if left[BASE] < 0][0]


def greater_by_one(web, takings):
    # Purses that are alike are free alike, so one taking is kept for each settled purse that takings leave.
    found = {}
    for left, taking in takings.items():
        for house in range(len(web)):
            coin = one_at(web, house)
            found.setdefault(settle(web, minus(left, coin), BASE)[1], plus(taking, coin))
    return found


def turned_about(web, purse, told):
    # Lending turned about leads to the turned purse of the one that was reached, and the order turned about has the
    # turned purse of the order's: so what one of them has more the other one has less.
    script = least(tuple([-often for often in told[1]]))
    order = list(reversed(told[2]))
    return (told[0] + total(purse) + 1 - loops(web), script, order)
