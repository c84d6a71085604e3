"""Squares of webs, without some base, solved for a column and counted, all in whole numbers."""


def solved_below(square, column):
    # Told are the numbers which, put into the rows, would come to the column, each rounded down.
    told = evened([row + (number,) for row, number in zip(square, column)])
    return [row[-1] // told[0] for row in told[1]]


def determinant(square):
    return evened(square)[0]


def evened(rows):
    # Told are a number and the rows made over so that it stands at row and column alike, else 0: it is the
    # determinant. Each pivot counts the trees of the web with the houses behind it drawn into the base, so none
    # is 0 and no rows need to be exchanged.
    left = list(rows)
    divisor = 1
    for place in range(len(rows)):
        by = left[place]
        left = [row if at == place else reduced(row, by, place, divisor) for at, row in enumerate(left)]
        divisor = by[place]
    return (divisor, left)


def reduced(row, by, place, divisor):
    # The divisor, the pivot of the place before, goes into each of these without a rest (Bareiss).
    return tuple([(by[place] * number - row[place] * other) // divisor for number, other in zip(row, by)])
