"""Still purses, their trees, and their sums (points 20 to 22)."""

from purseweb.errors import NoTree, NotSettled
from purseweb.fires import is_settled
from purseweb.purses import minus, plus
from purseweb.settle import settle
from purseweb.trees import is_tree, trees
from purseweb.webs import ties_of


def tree_of(web, base, purse):
    if not is_settled(web, purse, base):
        raise NotSettled(f"not settled at {base}: {purse}")
    return tree_by(web, base, lambda tie, house, seen: purse[house] < seen)


def tree_by(web, base, burns):
    return tuple(sorted([burnt_by[0] for burnt_by in walked(web, base, burns)]))


def walked(web, base, burns):
    # Told are tuples (TIE, HOUSE, SEEN): the tie by which the house burns, and how many ties that lead to the house
    # were looked at by then.
    ties = ties_of(web)
    fire = [base]
    looked = []
    burning = []
    tie = tie_to_look_at(ties, looked, fire)
    while tie is not None:
        looked.append(tie)
        house = ties[tie][1] if ties[tie][0] in fire else ties[tie][0]
        seen = len([other for other in looked if house in ties[other][:2]])
        if burns(tie, house, seen):
            fire.append(house)
            burning.append((tie, house, seen))
        tie = tie_to_look_at(ties, looked, fire)
    return burning


def tie_to_look_at(ties, looked, fire):
    for tie, ends in enumerate(ties):
        if tie not in looked and (ends[0] in fire) != (ends[1] in fire):
            return tie
    return None


def still_of(web, base, tree):
    if not is_tree(web, tree):
        raise NoTree(f"no tree: {tree}")
    return still_by(web, base, tree)


def still_by(web, base, tree):
    coins = [0] * len(web)
    burning = walked(web, base, lambda tie, house, seen: tie in tree)
    for number, end, looked_at in burning:
        # As many as let it burn by this tie, and not yet by one that was looked at ahead.
        coins[end] = looked_at - 1
    return tuple(coins)


def stills(web, base, most=300):
    return sorted([still_by(web, base, tree) for tree in trees(web, most)])


def joined(web, base, one, other):
    refuse_unstill(web, base, one)
    refuse_unstill(web, base, other)
    return stilled(web, base, plus(one, other))


def back(web, base, one):
    refuse_unstill(web, base, one)
    return stilled(web, base, minus((0,) * len(web), one))


def refuse_unstill(web, base, purse):
    if purse[base] != 0 or not is_settled(web, purse, base):
        raise NotSettled(f"not still at {base}: {purse}")


def stilled(web, base, purse):
    # Coins and debt of the base change nothing about how the others are settled.
    settled = settle(web, purse, base)[1]
    return settled[:base] + (0,) + settled[base + 1:]
