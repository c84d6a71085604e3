"""The squares of webs, and squares multiplied (point 23)."""

from purseweb.webs import ties_at


def square_of(web):
    return square_without(web, 0)


def square_without(web, base):
    others = [house for house in range(len(web)) if house != base]
    return tuple([row_of(web, house, others) for house in others])


def row_of(web, house, others):
    return tuple([ties_at(web, house) if other == house else -web[house][other] for other in others])


def multiplied(one, other):
    return tuple([row_times(row, other) for row in one])


def row_times(row, square):
    return tuple([row_by_column(row, square, column) for column in range(len(row))])


def row_by_column(row, square, column):
    return sum([number * square[at][column] for at, number in enumerate(row)])
