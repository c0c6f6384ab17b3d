"""What several tests share: ledgers made by hand and by chance, all their placings, and things of many kinds."""

import copy
import itertools

from skewbooks.bounds import leads
from skewbooks.errors import NoPlacing, NoRow
from skewbooks.ledgers import is_placing, rows_of


class Odd:
    """A thing that can be no key of a dict and that no comparison takes."""

    __hash__ = None

    def __eq__(self, other):
        raise RuntimeError("compared")

    def __lt__(self, other):
        raise RuntimeError("compared")

    def __len__(self):
        raise RuntimeError("measured")

    def __iter__(self):
        raise RuntimeError("walked")


def nest(depth, inner):
    """The inner thing within so many tuples."""
    for _ in range(depth):
        inner = (inner,)
    return inner


def odd_things():
    """Things of many kinds: none of them a name, a whole number, a ledger, a placing with rows or a bound."""
    return [
        None, True, False, "", "A", "a b", "ab\n", " ", b"", b"a", [], {}, set(), frozenset(),
        (None,), (True,), ([],), ({},), (set(),), [()], ["a"], {"a": 1}, {"a"}, {1: []}, [["a", 1]],
        object(), object, len, lambda: 0, range(2), iter(()), bytearray(b"a"), complex(1, 0),
        Odd(), (Odd(),), (Odd(), Odd()), ("a", Odd()), (Odd(), 1), [Odd()], nest(9, None), nest(9, Odd()),
        (None, None), ((), None), (None, ()), ([], []), ({}, {}), ((), [])
    ]


def big():
    """A ledger of three houses, one of them with two runs and one without rows, and three letters."""
    return (
        (
            ("hb", -2, 3, 1, ((("x", 5), ("y", 7), ("v", 12)), (("z", 11),))),
            ("ha", 0, 10, 2, ((("p", 1), ("q", 9)),)),
            ("hc", 4, 4, 0, ()),
        ),
        (("p", "y", 2, 6), ("q", "z", 3, 3), ("y", "q", 1, None)),
    )


def one_house(low, high, drift, *runs):
    """A ledger of one house without letters."""
    return ((("h", low, high, drift, runs),), ())


def two_rows(least, most):
    """A ledger of two houses with a row each and a letter from a to b."""
    far = 10 ** 6
    houses = (("g", -far, far, 0, ((("a", 0),),)), ("h", -far, far, 0, ((("b", 0),),)))
    return (houses, (("a", "b", least, most),))


def put(thing, path, part):
    """The nest of tuples with another part at the place to which the path leads."""
    if not path:
        return part
    place = path[0]
    return thing[:place] + (put(thing[place], path[1:], part),) + thing[place + 1:]


def at(thing, path):
    """The part of the nest to which the path leads."""
    for place in path:
        thing = thing[place]
    return thing


def same_behind(test, deed, *things):
    """Call the deed twice: both answers are alike, and the things are what they were. Gives the answer."""
    before = copy.deepcopy(things)
    first = deed(*things)
    second = deed(*things)
    test.assertEqual(first, second)
    test.assertEqual(repr(things), repr(before))
    return first


def quarrels():
    """Ledgers that quarrel, each with the words of the bounds that every ring of it with a sum of 1 or more has."""
    far = 10 ** 6
    wide = ("g", -far, far, 0, ((("x", 0), ("y", 10)),))
    anew = ("g", -far, far, 0, ((("x", 0),), (("y", 0),)))
    between = ("h", -far, far, 0, ((("p", 0),),))
    return [
        (("early", "late", "next"), one_house(0, 0, 0, (("x", 5),), (("y", 5),))),
        (("early", "late", "next"), one_house(-1, 1, 9, (("x", 5),), (("y", 3),))),
        (("early", "late", "least"), ((("g", 0, 0, 0, ((("a", 3),),)), ("h", 0, 0, 0, ((("b", 3),),))), (("a", "b", 1, 5),))),
        (("early", "late", "most"), ((("g", 0, 0, 0, ((("a", 3),),)), ("h", 0, 0, 0, ((("b", 9),),))), (("a", "b", 1, 5),))),
        (("slow", "most"), ((wide, between), (("p", "y", 1, 4), ("x", "p", 1, 5)))),
        (("fast", "least"), ((wide, between), (("p", "y", 6, None), ("x", "p", 5, None)))),
        (("next", "least"), ((anew, between), (("p", "x", 1, None), ("y", "p", 1, None)))),
    ]


def small_ledger(chance, likely=0.3):
    """A ledger of at most five rows in one to three houses, letters being so likely; often it quarrels."""
    names = chance.sample("abcdefgh", chance.choice([0, 1, 2, 3, 4, 4, 5, 5]))
    slots = [(house, run) for house in chance.sample(["k", "l", "m"], chance.choice([1, 2, 2, 3, 3])) for run in (0, 0, 1)]
    rows = {slot: [] for slot in slots}
    for name in names:
        rows[chance.choice(slots)].append(name)
    houses = []
    for house in dict.fromkeys(house for house, _ in slots):
        runs = [rows[(house, run)] for run in (0, 1) if rows[(house, run)]]
        low = chance.randint(-2, 1)
        houses.append((house, low, low + chance.randint(0, 3), chance.randint(0, 2), tuple(
            tuple(zip(run, sorted(chance.sample(range(-2, 5), len(run))))) for run in runs
        )))
    owners = {row: house for (house, _), some in rows.items() for row in some}
    letters = []
    for pair in sorted(itertools.permutations(sorted(owners), 2)):
        if owners[pair[0]] != owners[pair[1]] and chance.random() < likely:
            least = chance.choice([1, 1, 2])
            letters.append(pair + (least, chance.choice([None, None, least, least + 2])))
    return (tuple(houses), tuple(letters))


def all_placings(ledger):
    """All placings of a small ledger, found by going through all moments that its clocks let be, one by one."""
    spans = {
        row: range(reading - high, reading - low + 1)
        for _, low, high, _, runs in ledger[0] for run in runs for row, reading in run
    }
    names = rows_of(ledger)
    tried = [tuple(zip(names, times)) for times in itertools.product(*[spans[name] for name in names])]
    return [placing for placing in tried if is_placing(ledger, placing)]


def full_ledger(chance, off=0, slack=3):
    """A ledger of 24 rows in six houses and 24 letters that has a placing; all clocks are off by about so much."""
    names = iter(chance.sample([a + b for a in "abcdef" for b in "uvwxyz"], 24))
    houses, moments, owners = [], {}, {}
    for house in chance.sample(["ha", "hb", "hc", "hd", "he", "hf"], 6):
        moment, runs = chance.randint(0, 9), []
        for many in chance.choice([(4,), (1, 3), (2, 2), (3, 1)]):
            wrong, run = off + chance.randint(-slack, slack), []
            for _ in range(many):
                moment += chance.randint(2, 9)
                row = next(names)
                moments[row], owners[row] = moment, house
                run.append((row, moment + wrong + chance.randint(0, 1)))
            runs.append(tuple(run))
        houses.append((house, off - slack, off + slack + 1, chance.randint(1, 2), tuple(runs)))
    pairs = [
        pair for pair in itertools.permutations(sorted(moments), 2)
        if owners[pair[0]] != owners[pair[1]] and moments[pair[0]] < moments[pair[1]]
    ]
    letters = []
    for sent, taken in sorted(chance.sample(pairs, 24)):
        gap = moments[taken] - moments[sent]
        letters.append((sent, taken, chance.randint(1, gap), chance.choice([None, gap, gap + slack])))
    return (tuple(houses), tuple(letters))


def full_quarrel(chance, off=0):
    """A ledger of 24 rows and 24 letters that most likely quarrels: one letter of a full ledger goes too slowly."""
    houses, letters = full_ledger(chance, off)
    place = chance.randrange(24)
    sent, taken, least, _ = letters[place]
    return (houses, put(letters, (place,), (sent, taken, least + 60, None)))


def keeping_moments(ledger, told):
    """Moments for all rows of the ledger, and 0 for None, that keep to these (from, to, more), or None."""
    moments = {place: 0 for place in (None,) + rows_of(ledger)}
    for _ in range(len(moments) + 1):
        if all(moments[end] - moments[start] >= more for start, end, more in told):
            return {place: moment - moments[None] for place, moment in moments.items()}
        for start, end, more in told:
            moments[end] = max(moments[end], moments[start] + more)
    return None


def told_of(ledger):
    """All that the ledger tells of its rows as (from, to, more), put down by other means than the program's."""
    told = []
    for _, low, high, drift, runs in ledger[0]:
        rows = [row for run in runs for row in run]
        for row, reading in rows:
            told += [(None, row, reading - high), (row, None, low - reading)]
        told += [(one, other, 1) for (one, _), (other, _) in zip(rows, rows[1:])]
        for run in runs:
            told += [(one, other, later - reading - drift) for one, reading in run for other, later in run if one != other]
    for sent, taken, least, most in ledger[1]:
        told += [(sent, taken, least)] + ([(taken, sent, -most)] if most is not None else [])
    return told


def can_keep(ledger, *told):
    """Whether there is a placing of the ledger that keeps to these (from, to, more), too."""
    return keeping_moments(ledger, told_of(ledger) + list(told)) is not None


def wider(ledger, name, more):
    """The ledger with the clock of a house off by so much more."""
    return (tuple(
        (house[0], house[1] - more, house[2] + more) + house[3:] if house[0] == name else house for house in ledger[0]
    ), ledger[1])


def is_span(ledger, start, end, low, high):
    """Whether low and high are the least and the greatest by which the end can be later than the start."""
    if not all(can_keep(ledger, (start, end, gap), (end, start, -gap)) for gap in (low, high)):
        return False
    return not can_keep(ledger, (end, start, 1 - low)) and not can_keep(ledger, (start, end, high + 1))


def is_so(claim):
    """Whether a claim in the right form is true, whatever its paper."""
    word, ledger, *asked = claim
    if word in ("placed", "quarrel"):
        return can_keep(ledger) == (word == "placed")
    if word == "moments":
        return is_span(ledger, None, *asked)
    if word == "apart":
        return is_span(ledger, *asked)
    if word in ("can", "can't"):
        row, other, said = asked
        told = {"ahead": [(row, other, 1)], "behind": [(other, row, 1)], "at once": [(row, other, 0), (other, row, 0)]}
        return can_keep(ledger, *told[said]) == (word == "can")
    if word in ("order", "no order"):
        along = [(row, later, 0) for row, later in zip(asked[0], asked[0][1:])]
        return can_keep(ledger, *along) == (word == "order")
    if word == "mended":
        house, more = asked
        return can_keep(wider(ledger, house, more)) and (more == 0 or not can_keep(wider(ledger, house, more - 1)))
    return not can_keep(wider(ledger, asked[0], 10 ** 15))


def paths_in(thing):
    """The ways to all parts of a nest of tuples, that to itself with them."""
    ways = [()]
    if isinstance(thing, tuple):
        ways += [(place,) + way for place, part in enumerate(thing) for way in paths_in(part)]
    return ways


def check_ring(test, ledger, ring):
    """The ring is a bare one of the ledger's bounds with a sum of 1 or more, of which no bound can be spared."""
    test.assertIsInstance(ring, tuple)
    told = [leads(ledger, bound) for bound in ring]
    test.assertEqual([start for start, _, _ in told], [told[-1][1]] + [end for _, end, _ in told[:-1]])
    test.assertEqual(len({end for _, end, _ in told}), len(ring))
    test.assertGreaterEqual(sum(more for _, _, more in told), 1)
    test.assertIsNone(keeping_moments(ledger, told))
    for place in range(len(told)):
        others = told[:place] + told[place + 1:]
        moments = keeping_moments(ledger, others)
        test.assertIsNotNone(moments)
        test.assertTrue(all(moments[end] - moments[start] >= more for start, end, more in others))


def no_rows():
    """Things of many kinds that name no row of any ledger here."""
    return odd_things() + [0, 1, -1, 10 ** 9, "nobody", "abcdefghi", "X", "x ", ("x",), ["x"], {"x": 1}, b"x", "k", "g"]


def refuses_quarrel(test, deed, ledger, *things):
    """The deed refuses the ledger with NoPlacing, twice the same, and nothing is changed."""
    before = copy.deepcopy(ledger)
    rings = []
    for _ in range(2):
        with test.assertRaises(NoPlacing) as caught:
            deed(ledger, *things)
        rings.append(caught.exception.ring)
        check_ring(test, ledger, caught.exception.ring)
    test.assertEqual(rings[0], rings[1])
    test.assertEqual(ledger, before)


def refuses_row(test, deed, wrong, *things):
    """The deed refuses these things with NoRow, its field name the very thing that is wrong."""
    for _ in range(2):
        with test.assertRaises(NoRow) as caught:
            deed(*things)
        test.assertIs(caught.exception.name, wrong)
