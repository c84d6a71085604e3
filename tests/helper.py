"""What several test files need: refusals taken and looked at, and some webs."""

import copy
import itertools

from purseweb import errors

NAMES = (
    "NoWeb", "Apart", "NoText", "NoOrder", "TooMany", "NotSettled",
    "NoTree", "NoTotal", "NoEnds", "NoRow", "NoName",
)

ALL_PAIRS = list(itertools.combinations(range(7), 2))

# Written by hand, so that a fault in web_of doesn't hide another one.
LONE = ((0,),)
PAIR = ((0, 1), (1, 0))
THICK_PAIR = ((0, 9), (9, 0))
PATH = ((0, 1, 0), (1, 0, 1), (0, 1, 0))
TRIANGLE = ((0, 1, 1), (1, 0, 1), (1, 1, 0))
LOPSIDED = ((0, 1, 3, 0), (1, 0, 0, 0), (3, 0, 0, 1), (0, 0, 1, 0))
FULL = tuple(tuple(0 if a == b else 9 for b in range(7)) for a in range(7))
WEBS = (LONE, PAIR, THICK_PAIR, PATH, TRIANGLE, LOPSIDED, FULL)

THIRTY = 10 ** 30 - 1


def refusal(test, name, call, *arguments):
    """The error by which the call is refused: of the class of that name and no other one."""
    kept = copy.deepcopy(arguments)
    for taken in (errors.PurseError, ValueError):
        with test.assertRaises(taken, msg=arguments) as caught:
            call(*arguments)
    error = caught.exception
    test.assertEqual([other for other in NAMES if isinstance(error, getattr(errors, other))], [name], arguments)
    test.assertEqual(arguments, kept)
    return error
