"""Purses, scripts and orders (points 7 to 10)."""

from purseweb.errors import NoOrder
from purseweb.webs import ties_at


def total(purse):
    return sum(purse)


def lent(web, purse, house):
    return run(web, purse, one_at(web, house))


def one_at(web, house):
    # As a script that house's lending once, as a purse its one coin.
    return tuple([1 if other == house else 0 for other in range(len(web))])


def run(web, purse, script):
    return tuple([coins + gain(web, script, house) for house, coins in enumerate(purse)])


def gain(web, script, house):
    # Over each tie a coin comes for each lending there and goes for each lending here.
    return sum([times * (script[other] - script[house]) for other, times in enumerate(web[house])])


def least(script):
    lowest = min(script)
    return tuple([often - lowest for often in script])


def plus(one, other):
    return tuple([first + second for first, second in zip(one, other)])


def minus(one, other):
    return tuple([first - second for first, second in zip(one, other)])


def turned(web, purse):
    return tuple([ties_at(web, house) - 2 - coins for house, coins in enumerate(purse)])


def order_purse(web, order):
    if sorted(order) != list(range(len(web))):
        raise NoOrder(f"not each house once: {order}")
    return tuple([ties_ahead(web, order, house) - 1 for house in range(len(web))])


def ties_ahead(web, order, house):
    return sum([web[house][other] for other in order[:order.index(house)]])
