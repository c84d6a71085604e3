"""The parts of a web, the place of a purse, and its round (points 24 to 26)."""

from purseweb.errors import NoTotal
from purseweb.purses import total
from purseweb.squares import multiplied, square_of


def parts(web):
    square = square_of(web)
    many = len(square)
    block = block_of(square)
    for place in range(many):
        block = part_found(block, many, place)
    row = tuple([block[at][at] for at in range(many)])
    left = tuple([tuple(line[many:]) for line in block[:many]])
    right = tuple([tuple(line[:many]) for line in block[many:]])
    # LEFT times the square times RIGHT has just ROW. So the square times RIGHT undoes LEFT, and LEFT times the square
    # undoes RIGHT, once ROW is divided out: that leaves no rest, as what is done to rows and columns can be undone.
    back = tuple([divided(line, row) for line in multiplied(square, right)])
    forth = tuple([divided(line, (by,) * many) for line, by in zip(multiplied(left, square), row)])
    return (left, back, right, forth, row)


def block_of(square):
    # A unit stands to the right of the square, where all that is done to its rows is done too, and one below it, for
    # what is done to its columns: in the end they are LEFT and RIGHT.
    many = len(square)
    upper = [list(row) + unit_row(many, at) for at, row in enumerate(square)]
    lower = [unit_row(many, at) + [0] * many for at in range(many)]
    return upper + lower


def unit_row(many, at):
    return [1 if column == at else 0 for column in range(many)]


def part_found(block, many, place):
    found = crossed_out(block, many, place)
    unfit = unfit_row(found, many, place)
    while unfit is not None:
        # What the part leaves of that row makes a lesser part: so this comes to an end.
        found[place] = less(found[place], found[unfit], 1)
        found = crossed_out(found, many, place)
        unfit = unfit_row(found, many, place)
    if found[place][place] < 0:
        found[place] = [-number for number in found[place]]
    return found


def unfit_row(block, many, place):
    # The part is to be a divisor of all that stands behind it.
    part = block[place][place]
    for at in range(place + 1, many):
        if any([number % part != 0 for number in block[at][:many]]):
            return at
    return None


def crossed_out(block, many, place):
    crossed = cleared_below(block, many, place)
    while any(crossed[place][place + 1:many]):
        crossed = turned_over(cleared_below(turned_over(crossed), many, place))
        # This brings something back into the row only where the number at the place becomes less.
        crossed = cleared_below(crossed, many, place)
    return crossed


def cleared_below(block, many, place):
    rows = list(block)
    below = rows_to_clear(rows, many, place)
    while len(below) > 0:
        first = below[0]
        if rows[place][place] == 0 or abs(rows[first][place]) < abs(rows[place][place]):
            kept = rows[place]
            rows[place] = rows[first]
            rows[first] = kept
        for at in below:
            rows[at] = less(rows[at], rows[place], rows[at][place] // rows[place][place])
        below = rows_to_clear(rows, many, place)
    return rows


def rows_to_clear(rows, many, place):
    return [at for at in range(place + 1, many) if rows[at][place] != 0]


def less(row, by, often):
    return [number - often * other for number, other in zip(row, by)]


def turned_over(block):
    return [[row[at] for row in block] for at in range(len(block))]


def divided(line, row):
    return tuple([number // by for number, by in zip(line, row)])


def place_of(web, purse):
    return (total(purse),) + rests(parts(web), purse)


def rests(told, purse):
    left = told[0]
    return tuple([by_row(line, purse[1:]) % by for line, by in zip(left, told[4])])


def by_row(line, coins):
    return sum([number * each for number, each in zip(line, coins)])


def round_of(web, purse):
    if total(purse) != 0:
        raise NoTotal(total(purse))
    told = parts(web)
    often = 1
    for rest, by in zip(rests(told, purse), told[4]):
        # So often is the rest to be taken until it is a multiple, whatever the other rests need.
        own = by // common_divisor(rest, by)
        often = often * own // common_divisor(often, own)
    return often


def common_divisor(one, other):
    greater = one
    lesser = other
    while lesser != 0:
        rest = greater % lesser
        greater = lesser
        lesser = rest
    return greater
