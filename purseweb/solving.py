"""Rows of whole numbers, solved for a column without fractions."""


def solved_below(rows, column):
    # Told are the numbers which, put into the rows, would come to the column, each rounded down.
    # The rows are those of a web without its base: each pivot counts the trees of the web with the houses
    # behind it drawn into the base, so none is 0 and no rows need to be exchanged.
    left = [row + [number] for row, number in zip(rows, column)]
    divisor = 1
    for place in range(len(rows)):
        by = left[place]
        left = [row if at == place else reduced(row, by, place, divisor) for at, row in enumerate(left)]
        divisor = by[place]
    return [row[-1] // divisor for row in left]


def reduced(row, by, place, divisor):
    # The divisor, the pivot of the place before, goes into each of these without a rest (Bareiss).
    return [(by[place] * number - row[place] * other) // divisor for number, other in zip(row, by)]
