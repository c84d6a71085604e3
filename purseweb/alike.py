"""Purses that lead to one another by lending (point 14)."""

from purseweb.purses import least, minus
from purseweb.settle import settle


def alike(web, one, other):
    # Any base does: of alike purses the settled ones are equal at each.
    from_one = settle(web, one, 0)
    from_other = settle(web, other, 0)
    if from_one[1] != from_other[1]:
        return None
    return least(minus(from_one[0], from_other[0]))
