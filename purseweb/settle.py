"""The one settled purse to which lending leads (point 13)."""

from purseweb.fires import burnt, in_debt
from purseweb.purses import least, plus, run
from purseweb.solving import solved_below
from purseweb.squares import square_without


def settle(web, purse, base):
    script = nearing(web, purse, base)
    near = run(web, purse, script)
    indebted = in_debt(near, base)
    # Nearing leaves no house a whole lending to make: a group that could lend at the end would but undo some of
    # its borrowing. Only houses in debt borrow, so none does more often than it must: no group can, all burn.
    while len(indebted) > 0:
        step = borrowing(web, indebted)
        script = plus(script, step)
        near = run(web, near, step)
        indebted = in_debt(near, base)
    return (least(script), near, burnt(web, near, base))


def nearing(web, purse, base):
    # Solved so that no house but the base would keep anything, and rounded down: what each house keeps then is
    # less than its ties, coins or debt, and how often houses borrow behind it doesn't grow with the purse.
    column = purse[:base] + purse[base + 1:]
    script = solved_below(square_without(web, base), column)
    script.insert(base, 0)
    return tuple(script)


def borrowing(web, houses):
    return tuple([-1 if house in houses else 0 for house in range(len(web))])
