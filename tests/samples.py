"""What several tests use: values of every kind, and checks of errors and results."""

from itertools import product

SIGNS = (-1, 0, 1)
BIG = 10 ** 30 - 1


def odd_values():
    """A new list of values of every kind (floats are never passed)."""
    from pairsigns.queries import Query
    from pairsigns.rules import Rules
    from pairsigns.signs import Order
    from pairsigns.stores import Store
    from pairsigns.streams import Stream
    from pairsigns.tables import Catalog, Database
    from pairsigns.worlds import World
    columns = (("a", "number"),)
    catalog = Catalog([("r", Rules(columns), [])])
    query = Query(catalog, ("r",), wanted=("r.a",))
    return [
        None, True, False, 0, 1, -1, 2, -2, 5, 17, BIG, -BIG,
        "", "a", "b", "A", "abc", "a b", "none", "key", "key a", "up", "down", "coming", "number", "-", "0", "+", "-0+",
        "1", ".", "a.b", "-> a", "never a-", "a orders b", "abcdefghijkl", "abcdefghijklm", "\n", " ",
        b"a", b"",
        [], [None], [0], [1], [True], ["a"], ["a", "b"], ["a", "up"], [["a", "up"]], [("a", "up")], [("a", "number")],
        [("key", ("a",))], [[]], [()],
        (), (None,), (0,), (1,), (-1,), (2,), (True,), (False,), (0, True), (0, False), (1, -1), ("0",), ("a",),
        ("a", "b"), ("a", "up"), ("a", "number"), ((),), ([],), ({},), (("a", "up"),), (("a", True),),
        (("a", "number"), ("a", "text")), (["a", "number"],), (("a", ["number"]),), (((("a",),),),),
        ("key",), ("key", "a"), ("key", ["a"]), ["key", ("a",)], ("key", ("z",)), ("key", ("a", "a")),
        ("key", ("a",), ()), ("determines", ("a",)), ("determines", ("a",), "a"), ("orders", (), ()),
        ("orders", (("a", "up"),), [("a", "up")]), ("never", ()), ("never", (("a", True),)), ("never", (("a", False),)),
        ("never", (["a", 1],)), ("never", (("coming", 0),)), (1, ("a",)), (None, None), (["key"], ("a",)),
        {}, {"a": 1}, {"a": "up"}, {1: {2: [3]}}, {0: ()}, {"a"}, frozenset(),
        object(), int, len, range(3), Order(), Order([("a", "up")]), Rules(columns), Rules(columns, [("key", ("a",))]),
        catalog, Database(catalog), query, Stream(catalog, query, ("heap", "r")), World(1, {"r": (0,)}, {"r.a": (0,), "r.coming": (0,)}),
        Store(catalog), Store(catalog).batch(), Store(catalog).keep("v", query, ("heap", "r")),
    ]


def is_whole_number(value):
    return type(value) is int


def vectors_of_length(length):
    return list(product(SIGNS, repeat=length))


def row_vectors(length):
    """All vectors of two different rows of a table with so many columns, sorted."""
    return [signs + (coming,) for signs in vectors_of_length(length) for coming in (-1, 1)]


def check_error(test, error, told, call, *args, **keywords):
    """The call raises just this error with just these attributes (a dict)."""
    with test.assertRaises(error, msg=f"{args!r} {keywords!r}") as caught:
        call(*args, **keywords)
    test.assertIs(type(caught.exception), error, msg=f"{args!r} {keywords!r}")
    test.assertEqual(sorted(vars(caught.exception)), sorted(told))
    for name in told:
        check_same(test, getattr(caught.exception, name), told[name])


def check_same(test, found, wanted):
    """The two are equal, and True is nowhere 1."""
    if found is not wanted:
        test.assertEqual(found, wanted)
        test.assertEqual(repr(found), repr(wanted))
        test.assertIs(type(found), type(wanted))


def check_true(test, found, message=None):
    test.assertIs(found, True, msg=message)


def check_false(test, found, message=None):
    test.assertIs(found, False, msg=message)


def edits(text, letters):
    """All strings that have one character more, also one doubled, less, or another one."""
    found = {text[:at] + text[at + 1:] for at in range(len(text))}
    found |= {text[:at] + text[at] + text[at:] for at in range(len(text))}
    found |= {text[:at] + letter + text[at + 1:] for at in range(len(text)) for letter in letters}
    found |= {text[:at] + letter + text[at:] for at in range(len(text) + 1) for letter in letters}
    return sorted(found - {text})
