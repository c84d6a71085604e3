"""Debt that is cleared, or never is (point 15)."""

from purseweb.settle import settle

BASE = 0


def cleared(web, purse):
    told = settle(web, purse, BASE)
    if told[1][BASE] >= 0:
        return ("free", told[0], told[1])
    # Each house has fewer coins than ties to those burnt ahead of it, and the base is in debt:
    # so the order in which they burn shows that debt stays.
    return ("never", told[0], told[2])
