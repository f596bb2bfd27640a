"""Values that many tests share, and what tells whether a value is of a kind.

The kinds are told here once more, apart from the program, so that a test can
say of any value whether a parameter may be it.
"""

from math import gcd

from onesheetmore.errors import NotUsable

TWO, THREE = ((1, 2), (1, 2)), ((1, 2, 4), (1, 2, 4))
ODD = ((1, 3), (1, 3))
SIDES = ((2, 4), (3, 6))
ONE_SIZE = ((3,), (2,))
SIX = ((1, 2, 4, 8, 16, 32), (3, 6, 18, 36, 72, 144))
STOCK = ((3, 2, 1), (4, 4, 2))
ROUND = ((0, 1, 2), (1, 0, 2))
THIRTY = 10 ** 30 - 1
TWELVE = 10 ** 12 - 1


def deep_tuple(depth):
    """A tuple in a tuple and so on, so many deep."""
    thing = ()
    for _ in range(depth):
        thing = (thing,)
    return thing


ANY = [
    0, 1, 2, 3, 7, -1, -2, 10 ** 60 - 1, -(10 ** 60 - 1), True, False, None,
    "", " ", "0", "1", "heights", "widths", "0,1*2", "a" * 4000,
    (), [], (0,), [0], (1,), (True,), (0, 0), [0, 0], (0, 1), (1, 0), (1, 1), (False, True), (True, 1), (2, 4),
    (-1, 2), (1, -2), (0, 5), ("0", "1"), (None, None), (0, 0, 0), (1, 1, 1), [1, 1, 1], (True, 1, 1),
    ((0, 0),), [(0, 0)], ([0, 0],), ((0, False),), ((0, 1), (0, 0)), ((0, 0), (0, 0)), ((0, 0), (0, 1)),
    ((0, 0, 1),), [(0, 0, 1)], ([0, 0, 1],), ((0, 0, True),), ((False, 0, 1),), ((0, 0, 0),), ((0, 0, -1),),
    ((0, 1, 1), (0, 0, 1)), ((0, 0, 1), (0, 0, 1)), ((9, 9, 1),), ((3, 2, 1), (3, 2, 1)), ((1, 1, "1"),),
    ((1, 2), (1, 2)), [[1, 2], [1, 2]], ((1, 2), [1, 2]), ((2, 1), (1,)), ((True, 2), (1, 2)), ((1, 2), ()),
    ("heights", (0,)), ("heights", [0]), ["heights", (0,)], ("heights", (False,)), ("widths", (1, 0)),
    ("heights", ()), ("depths", (0,)), ("heights", (0,), 0), ("heights", 0),
    (0, 0, 0, (0, 1), (0, 1), (0, 1)), [0, 0, 0, (0, 1), (0, 1), (0, 1)], (0, 0, 0, [0, 1], (0, 1), (0, 1)),
    (0, 0, 0, (0, 0), (0, 1), (0, 1)), (0, 0, 0, (False, True), (0, 1), (0, 1)),
    deep_tuple(29), (0,) * 4999, [0] * 4999, ((0, 0),) * 1600, (((),),), [[[]]], ("a", ("b", [None, True])),
]


def changed(thing):
    """All values that differ from thing at one place: bools, lists, other lengths, other things."""
    if type(thing) is int:
        made = [None, str(thing), (thing,), -1, -thing, thing + 1]
        return made + ([bool(thing)] if thing in (0, 1) else [])
    if type(thing) is tuple:
        made = [list(thing), thing + (0,), thing + (None,), thing[:-1], thing + thing, None]
        for i, part in enumerate(thing):
            made.extend([thing[:i] + (other,) + thing[i + 1:] for other in changed(part)])
        return made
    return [None, [thing], (thing,), 0, ""]


def is_number(thing):
    return type(thing) is int and thing >= 0


def is_count(thing):
    return type(thing) is int and thing >= 1


def is_tuple_of(many, *tests):
    """What tells of a thing whether it is a tuple of so many entries that pass these tests."""
    return lambda thing: type(thing) is tuple and len(thing) == many and all(
        [test(part) for test, part in zip(tests, thing)])


is_span = is_tuple_of(2, is_number, is_count)
is_pair = is_tuple_of(2, is_number, is_number)
is_sheet = is_tuple_of(2, is_count, is_count)


def is_stock(thing):
    return type(thing) is tuple and all([is_tuple_of(3, is_count, is_count, is_count)(entry) for entry in thing])


def is_pairs(thing):
    return type(thing) is tuple and all([is_pair(entry) for entry in thing])


def is_quotient(thing):
    return is_tuple_of(2, lambda top: type(top) is int, is_count)(thing) and gcd(*thing) == 1


def is_below(many):
    return lambda thing: is_number(thing) and thing < many


def is_kind(lists):
    return is_tuple_of(2, is_below(len(lists[0])), is_below(len(lists[1])))


def is_kind_tuple(lists):
    return lambda thing: type(thing) is tuple and all([is_kind(lists)(entry) for entry in thing])


def is_kinds(lists):
    return lambda thing: is_kind_tuple(lists)(thing) and list(thing) == sorted(set(thing))


def is_lot(lists):
    def test(thing):
        if type(thing) is not tuple or not all([is_tuple_of(3)(entry) for entry in thing]):
            return False
        kinds = tuple([entry[:2] for entry in thing])
        return is_kinds(lists)(kinds) and all([is_count(entry[2]) for entry in thing])
    return test


def is_text(thing):
    return type(thing) is str


def all_kinds(lists):
    return [(a, b) for a in range(len(lists[0])) for b in range(len(lists[1]))]


def refusal_of(call):
    """(word, at) of the NotUsable that call raises; None if it raises none."""
    try:
        call()
    except NotUsable as error:
        return (error.word, error.at)
    return None


def read_no_error(call):
    """What call returns, or the error that it raises."""
    try:
        return call()
    except Exception as error:
        return error


def check_same(case, call, other):
    """Both calls return equal values, or raise NotUsable with the same fields."""
    told, expected = read_no_error(call), read_no_error(other)
    if isinstance(expected, NotUsable):
        case.assertEqual((type(told), told.word, told.at), (NotUsable, expected.word, expected.at))
    else:
        case.assertEqual(told, expected)


def check_refusals(case, function, given, tests):
    """Hold a function's refusals against tests of its parameters.

    given: the values of a call that is as stated, by name, in the sequence of
    the parameters. tests: what tells whether a value may stand for a
    parameter, by name; parameters without a test are handed in as such.
    """
    names = [name for name in given if name in tests]
    case.assertIsNone(refusal_of(lambda: function(**given)), (function, given))
    for name in names:
        for thing in ANY + changed(given[name]):
            if not tests[name](thing):
                before = repr(thing)
                told = refusal_of(lambda: function(**{**given, name: thing}))
                case.assertEqual(told, (name, -1), (function, name, thing))
                case.assertEqual(repr(thing), before)
    for i, name in enumerate(names):
        for later in names[i + 1:]:
            told = refusal_of(lambda: function(**{**given, name: None, later: None}))
            case.assertEqual(told, (name, -1), (function, name, later))


def check_calls(case, function, given):
    """The same answer by position, by name, and once more; nothing handed in changes."""
    before = repr(given)
    first = function(*given.values())
    case.assertEqual(repr(function(**given)), repr(first))
    case.assertEqual(repr(function(*given.values())), repr(first))
    case.assertEqual(repr(given), before)
