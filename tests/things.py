"""Things that the tests share: things of every kind, and a small table."""

from homequay.tables import Table

# Made anew at each call, so that no test can spoil another's.
def any_things():
    return [
        None, True, False, 0, 1, -1, 7, 10 ** 29, -(10 ** 29),
        "", " ", "a", "A", "nobody", "0", "a b", "a\nb", "~", "x" * 20000,
        [], [[]], ["a"], [1, True, None], [("a", 0)], [[[[[[[[[[]]]]]]]]]],
        (), ("a",), ("a", 0), ("a", True), ("a", 0, 0), ([], {}), ("a", [0]), ({}, 0), (None, None),
        ((((((((((),),),),),),),),),),
        {}, {"a": 1}, {1: []}, {("a", 0): {}}, {None: None},
    ]


TURNS = 4
PLACES = (("quay", 2), ("hill", 0), ("home", None), ("inn", None))
RIDES = (("bus", "quay", 0, "hill", 2, 3), ("quay", "hill", 2, "home", 3, 2), ("late", "quay", 3, "inn", 4, 0))
WAYS = (("path", "quay", "home", 3, 1), ("far", "hill", "quay", 5, 9))
GROUPS = (("ann.1", "quay", 0, 4), ("quay", "home", 4, 1), ("bob", "hill", 3, 0))


def small_table():
    return Table(TURNS, PLACES, RIDES, WAYS, GROUPS)


def refusal(case, error, deed, *things):
    """The error by which the deed refuses the things, which must be of just this class."""
    with case.assertRaises(error) as caught:
        deed(*things)
    case.assertEqual(caught.exception.__class__, error)
    return caught.exception
