"""The trees of a web, counted and told (point 19)."""

from purseweb.errors import TooMany
from purseweb.solving import determinant
from purseweb.squares import square_of
from purseweb.webs import ties_of


def tree_count(web):
    # By the matrix-tree theorem: so nobody needs to tell them to count them.
    return determinant(square_of(web))


def trees(web, most=300):
    if tree_count(web) > most:
        raise TooMany(most)
    ties = ties_of(web)
    groves = [()]
    # All groves of a size are part of some tree, so there never are many more of them than of trees; and as each
    # grows by later ties alone, in their order, every list of them is sorted.
    for size in range(1, len(web)):
        groves = grown(web, ties, groves)
    return groves


def grown(web, ties, groves):
    found = []
    for grove in groves:
        pieces = pieces_of(web, ties, grove)
        behind = grove[-1] + 1 if len(grove) > 0 else 0
        found.extend([grove + (tie,) for tie in range(behind, len(ties)) if is_between(pieces, ties[tie])])
    return found


def pieces_of(web, ties, grove):
    # For each house the piece in which it lies: houses of one piece have one number.
    pieces = list(range(len(web)))
    for tie in grove:
        ends = ties[tie]
        kept = pieces[ends[0]]
        gone = pieces[ends[1]]
        pieces = [kept if piece == gone else piece for piece in pieces]
    return pieces


def is_between(pieces, ends):
    return pieces[ends[0]] != pieces[ends[1]]


def is_tree(web, numbers):
    ties = ties_of(web)
    if len(numbers) != len(web) - 1 or not all([0 <= number < len(ties) for number in numbers]):
        return False
    # Sorted and each once is rising.
    return list(numbers) == sorted(set(numbers)) and len(set(pieces_of(web, ties, numbers))) == 1
