"""What several tests share: a ledger with a bit of everything, and things of many kinds."""

import copy


class Odd:
    """A thing that can be no key of a dict and that no comparison takes."""

    __hash__ = None

    def __eq__(self, other):
        raise RuntimeError("compared")

    def __lt__(self, other):
        raise RuntimeError("compared")

    def __len__(self):
        raise RuntimeError("measured")

    def __iter__(self):
        raise RuntimeError("walked")


def nest(depth, inner):
    """The inner thing within so many tuples."""
    for _ in range(depth):
        inner = (inner,)
    return inner


def odd_things():
    """Things of many kinds: none of them a name, a whole number, a ledger, a placing with rows or a bound."""
    return [
        None, True, False, "", "A", "a b", "ab\n", " ", b"", b"a", [], {}, set(), frozenset(),
        (None,), (True,), ([],), ({},), (set(),), [()], ["a"], {"a": 1}, {"a"}, {1: []}, [["a", 1]],
        object(), object, len, lambda: 0, range(2), iter(()), bytearray(b"a"), complex(1, 0),
        Odd(), (Odd(),), (Odd(), Odd()), ("a", Odd()), (Odd(), 1), [Odd()], nest(9, None), nest(9, Odd()),
        (None, None), ((), None), (None, ()), ([], []), ({}, {}), ((), [])
    ]


def big():
    """A ledger of three houses, one of them with two runs and one without rows, and three letters."""
    return (
        (
            ("hb", -2, 3, 1, ((("x", 5), ("y", 7), ("v", 12)), (("z", 11),))),
            ("ha", 0, 10, 2, ((("p", 1), ("q", 9)),)),
            ("hc", 4, 4, 0, ()),
        ),
        (("p", "y", 2, 6), ("q", "z", 3, 3), ("y", "q", 1, None)),
    )


def one_house(low, high, drift, *runs):
    """A ledger of one house without letters."""
    return ((("h", low, high, drift, runs),), ())


def two_rows(least, most):
    """A ledger of two houses with a row each and a letter from a to b."""
    far = 10 ** 6
    houses = (("g", -far, far, 0, ((("a", 0),),)), ("h", -far, far, 0, ((("b", 0),),)))
    return (houses, (("a", "b", least, most),))


def put(thing, path, part):
    """The nest of tuples with another part at the place to which the path leads."""
    if not path:
        return part
    place = path[0]
    return thing[:place] + (put(thing[place], path[1:], part),) + thing[place + 1:]


def at(thing, path):
    """The part of the nest to which the path leads."""
    for place in path:
        thing = thing[place]
    return thing


def same_behind(test, deed, *things):
    """Call the deed twice: both answers are alike, and the things are what they were. Gives the answer."""
    before = copy.deepcopy(things)
    first = deed(*things)
    second = deed(*things)
    test.assertEqual(first, second)
    test.assertEqual(repr(things), repr(before))
    return first
