"""Break purses: made of trees and ends, and alike to other purses (points 27 to 29)."""

from purseweb.errors import NoEnds, NoTotal, NoTree
from purseweb.fires import ties_to
from purseweb.purses import least, minus, one_at, plus, run, total
from purseweb.settle import borrowing, nearing
from purseweb.stills import tree_by
from purseweb.trees import is_tree
from purseweb.webs import loops, ties_at, ties_of

BASE = 0


def break_of(web, tree, ends):
    if not is_tree(web, tree):
        raise NoTree(f"no tree: {tree}")
    others = [tie for number, tie in enumerate(ties_of(web)) if number not in tree]
    if len(ends) != len(others) or not all([end in tie[:2] for end, tie in zip(ends, others)]):
        raise NoEnds(f"not an end of each tie outside the tree: {ends}")
    return tuple([ends.count(house) for house in range(len(web))])


def lacking(web, purse):
    refuse_total(web, purse)
    return lacking_among(web, purse)


def refuse_total(web, purse):
    if total(purse) != loops(web):
        raise NoTotal(total(purse))


def lacking_among(web, purse):
    # Every group of houses, with how many coins it has more than it needs; but of the empty one nothing is asked.
    groups = [((), -1)]
    for house, coins in enumerate(purse):
        groups = groups + [(group + (house,), over + coins + 1 - ties_to(web, house, group)) for group, over in groups]
    lacks = [group for group, over in groups[1:] if over < 0]
    return lacks[0] if len(lacks) > 0 else None


def broken(web, purse):
    refuse_total(web, purse)
    script = nearing(web, minus(purse, middle(web)), BASE)
    near = run(web, purse, script)
    houses = lacking_among(web, near)
    # The break purse is the one that lies nearest to the middle of all that are alike (measured by the squares of
    # what is to be moved over the ties), and a borrowing of houses that lack always leads nearer to it. So this comes
    # to an end, and soon, as nearing leaves but little to borrow, however great the purse is.
    while houses is not None:
        step = borrowing(web, houses)
        script = plus(script, step)
        near = run(web, near, step)
        houses = lacking_among(web, near)
    made = made_of(web, near)
    return (least(script), near, made[0], made[1])


def middle(web):
    return tuple([ties_at(web, house) // 2 - 1 for house in range(len(web))])


def made_of(web, purse):
    # Over ties that lead each to one of its ends, one more to each house than its coins but to the base, one comes
    # from the base to all houses: else those to which one doesn't come would lack. A tie by which one comes to a
    # house first is one of the tree, and the others give the coins.
    wanted = minus(plus(purse, (1,) * len(web)), one_at(web, BASE))
    heads = heads_for(web, wanted)
    tree = tree_by(web, BASE, lambda tie, house, seen: heads[tie] == house)
    return (tree, tuple([head for tie, head in enumerate(heads) if tie not in tree]))


def heads_for(web, wanted):
    # For each tie the end to which it leads, such that as many lead to each house as wanted.
    ties = ties_of(web)
    heads = [tie[0] for tie in ties]
    full = overfull(heads, wanted)
    while full is not None:
        way = way_out(ties, heads, wanted, full)
        for tie in way:
            heads[tie] = other_end(ties[tie], heads[tie])
        full = overfull(heads, wanted)
    return heads


def overfull(heads, wanted):
    for house, many in enumerate(wanted):
        if heads.count(house) > many:
            return house
    return None


def way_out(ties, heads, wanted, house):
    # The ties to be turned so that one fewer leads to the house, and one more to one to which too few lead.
    ways = {house: []}
    found = [house]
    looked = 0
    while heads.count(found[looked]) >= wanted[found[looked]]:
        here = found[looked]
        for tie, head in enumerate(heads):
            there = other_end(ties[tie], head)
            if head == here and there not in ways:
                ways[there] = ways[here] + [tie]
                found.append(there)
        looked += 1
    return ways[found[looked]]


def other_end(tie, end):
    return tie[1] if end == tie[0] else tie[0]
