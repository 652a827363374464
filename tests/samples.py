"""Webs, wrong things and helpers for the tests."""

import itertools
import random

from roundowned.errors import BadWeb, HouseError, NoHouse, TooMany
from roundowned.making import beside, closed, founded, put_in, sold
from roundowned.webs import Web

A = Web(3, ((("f", 0), ("f", 1), ("f", 2)),))
K = Web(1, ((("f", 0), ("h", 1), ("h", 1)), (("f", 0), ("h", 0), ("h", 0))))
C = Web(1, ((("h", 1),), (("h", 2),), (("h", 0),)))
EMPTY = Web(2, ())
SELF = Web(2, ((("f", 1), ("h", 0), ("h", 0)),))
CHAIN = Web(3, ((("f", 0),), (("f", 1), ("f", 2), ("h", 0)), (("f", 0), ("h", 0), ("h", 1)), (("h", 2),)))
MIXED = Web(3, (
    (("f", 0), ("f", 1), ("h", 1)),
    (("f", 1), ("f", 2), ("h", 0)),
    (("h", 0), ("h", 1), ("h", 3)),
    (("f", 2), ("h", 2), ("h", 2)),
    (("f", 0), ("f", 0), ("f", 1), ("f", 2), ("h", 4)),
))
FULL = Web(6, tuple(tuple(sorted((("f", k % 6), ("h", k), ("h", (k + 1) % 12)))) for k in range(12)))


def nested(depth, kind):
    """A thing of lists or tuples nested so deep."""
    thing = 0
    for _ in range(depth):
        thing = kind((thing,))
    return thing


def chain_of(doublings):
    """A row of 12 houses, each held by the one ahead, its length doubled so often; it ends in house 11."""
    web = Web(1, ((("f", 0),),) + tuple((("h", k),) for k in range(11)))
    for _ in range(doublings):
        web = put_in(web, 0, web, 11)
    return web


def ring_of(doublings):
    """A ring of 12 houses, its length doubled so often."""
    web = chain_of(doublings)
    return sold(web, web.houses.index((("f", 0),)), 0, ("h", 11))


def wide():
    """A web with rings and with more shares in a house than a caller may construct: 15, 25 and 75."""
    web = Web(3, (
        (("f", 0), ("f", 1), ("f", 2), ("h", 1), ("h", 2)),
        (("f", 0), ("h", 0), ("h", 2)),
        (("f", 0), ("f", 0), ("f", 1), ("h", 0), ("h", 1)),
        tuple([("f", 2)] * 7 + [("h", 0)] + [("h", 1)] * 7),
    ))
    return closed(web, 0)


def many():
    """A web with more houses than a caller may construct."""
    return founded(beside(MIXED, beside(MIXED, CHAIN)), (("f", 2), ("h", 13), ("h", 14)))


def row_of(houses, folk=1):
    """A web of so many houses, each held by the one ahead, the first by one of the folk."""
    web = Web(folk, ())
    for house in range(houses):
        web = founded(web, (("h", house - 1),) if house else (("f", 0),))
    return web


def knotted(houses, folk=1):
    """A web of so many houses, each holding itself, and one of the folk a share of each."""
    web = Web(folk, ())
    for house in range(houses):
        web = founded(web, (("f", house % folk), ("h", house), ("h", house)))
    return web


PLAIN = [A, K, C, EMPTY, SELF, CHAIN, MIXED, FULL]

WRONG = [
    None, True, False, -1, 10 ** 39, -10 ** 39, "", "f", "h", "0", "f0", b"", b"f", b"\x00", [], (), {}, {0: 1},
    [0], [True], (True,), (None,), ("f",), ("f", -1), ("f", True), ("f", "0"), ("f", 0, 0), ["f", 0], ["h", 0],
    ("g", 0), (b"f", 0), (0, "f"), ("f", None), ("h", False), ("h", -1), ("h", 10 ** 39), ("f", 10 ** 39),
    (("f", 0),) * 2, [("f", 0)], (["f", 0],), ((("f", 0),),), (int,), int, len, range(1), Ellipsis,
    nested(40, tuple), nested(40, list), (nested(39, tuple), 0), (0,) * 10000, [True] * 10000, "x" * 20000,
    A, K, NoHouse(), BadWeb("folk"), TooMany(3), (A,), [NoHouse()], bytearray(b"f"), slice(1), {"f": 0}, {("f", 0): 0},
]


def wrong_but(fits):
    """The wrong things but those that a test tells to be right."""
    return [thing for thing in WRONG if not fits(thing)]


def wrong_houses(web):
    return wrong_but(lambda thing: integer(thing, len(web.houses))) + [len(web.houses), len(web.houses) + 1]


def wrong_people(web):
    return wrong_but(lambda thing: integer(thing, web.folk)) + [web.folk, web.folk + 1]


def is_lot(thing, many):
    """Whether a thing is an ascending tuple of unlike numbers below many."""
    return type(thing) is tuple and all(integer(one, many) for one in thing) and list(thing) == sorted(set(thing))


def wrong_lots(web):
    things = [(web.folk,), (0, web.folk), (0, 0), (-1, 0), (0, None), (0, "1"), (False, 1), [0, 1], "0", (0, nested(39, tuple)),
              tuple(range(web.folk + 1)), (web.folk - 1, 0), ((0,),), (b"0",)]
    return wrong_but(lambda thing: is_lot(thing, web.folk)) + [thing for thing in things if not is_lot(thing, web.folk)]


def is_flags(thing, many):
    """Whether a thing is a tuple of so many flags."""
    return type(thing) is tuple and len(thing) == many and all(type(one) is bool for one in thing)


def wrong_flags(many):
    things = [(True,) * (many + 1), (False,) * (many + 2), (True,) * (many - 1), [True] * many, [False] * many,
              (1,) * many, (0,) * many, (None,) * many, ("y",) * many, "y" * many, b"y" * many, {0: True},
              (True,) * (many - 1) + (1,), (0,) + (True,) * (many - 1), (nested(39, tuple),) * many, (A,) * many]
    return wrong_but(lambda thing: is_flags(thing, many)) + [thing for thing in things if not is_flags(thing, many)]


def wrong_rows(web):
    many = len(web.houses)
    things = [(many,), [many], (0, many), [0, -1], [True], (0, False), ["0"], [None], [[0]], (0, nested(39, list)), {0: 0},
              "0", b"0", range(many), {0: True}.keys(), [A], [0] * 9999 + ["0"]]
    fits = lambda thing: type(thing) in (tuple, list) and all(integer(one, many) for one in thing)
    return wrong_but(fits) + [thing for thing in things if not fits(thing)]


def is_right_table(thing, folk):
    """Whether a thing is a table for so many folk."""
    return (type(thing) is tuple and all(is_lot(lot, folk) for lot in thing) and list(thing) == sorted(set(thing))
            and not any(one != other and set(one) <= set(other) for one in thing for other in thing))


def wrong_tables(folk):
    last = folk - 1
    things = [[(0,)], ([0],), ((0,), (0,)), ((0,), ()), ((), (0,)), ((0,), (0, last)), ((last,), (0,)), ((0, 0),), ((last, 0),),
              ((folk,),), ((0, folk),), ((-1,),), ((True,),), ((False,),), ((None,),), (0,), (None,), "0", ("0",), {(0,): 1},
              (b"0",), ((b"0",),), ([],), [()], (nested(39, tuple),), ((0,), nested(39, list)), (A,), ((A,),), ((0,),) * 5000,
              ((last,), (0, 1)), (tuple(range(folk + 1)),), tuple((k,) for k in range(folk + 1)), ((0,), None)]
    fits = lambda thing: is_right_table(thing, folk)
    return wrong_but(fits) + [thing for thing in things if not fits(thing)]


def wrong_folks():
    return wrong_but(lambda thing: integer(thing, 7) and thing > 0) + [0, 7, 8, -3, [3], (3,), "3", b"\x03", {3: 3}]


def every_table(folk):
    """All tables for so many folk, found by trying all lots of lots."""
    found = [()]
    for lot in all_lots(folk):
        found += [table + (lot,) for table in found
                  if not any(set(lot) <= set(one) or set(one) <= set(lot) for one in table)]
    return sorted(found)


def by_table(table, lot):
    """Whether a lot carries by a table."""
    return any(set(one) <= set(lot) for one in table)


def all_flags(many):
    """All tuples of so many flags, ascending."""
    return list(itertools.product([False, True], repeat=many))


def all_lots(many):
    """All ascending tuples of unlike numbers below many, ascending."""
    return sorted(lot for size in range(many + 1) for lot in itertools.combinations(range(many), size))


def check_errors(case, function, web, slots):
    """The errors of a call of a web, each as (class, a right argument, wrong ones): in their order."""
    check_calls(case, function, (web,), slots)


def check_calls(case, function, first, slots):
    """The errors of a call with some first arguments: in their order, whatever comes behind."""
    for at, (error, _, wrong) in enumerate(slots):
        ahead = [*first, *[slot[1] for slot in slots[:at]]]
        for thing in wrong:
            told = (function, *ahead, thing, *[slot[1] for slot in slots[at + 1:]])
            case.assertEqual(error_of(*told), (error, {}), told[1:])
        for thing in wrong[::9]:
            for later in [None, nested(40, list), True]:
                told = (function, *ahead, thing, *[later for _ in slots[at + 1:]])
                case.assertEqual(error_of(*told), (error, {}), told[1:])
    case.assertIsNone(error_of(function, *first, *[slot[1] for slot in slots]))


def check_too_many(case, most, function, web, slots):
    """TooMany for a web with too many houses, behind all errors of the arguments."""
    right = [slot[1] for slot in slots]
    case.assertEqual(error_of(function, web, *right), (TooMany, {"most": most}))
    for at, (error, _, wrong) in enumerate(slots):
        for thing in wrong:
            case.assertEqual(error_of(function, web, *right[:at], thing, *right[at + 1:]), (error, {}))


def integer(thing, many):
    """Whether a thing is an integer from 0 on, fewer than many."""
    return type(thing) is int and 0 <= thing < many


def random_web(rng, folk, houses, most=5, ringless=False):
    """A web drawn by a seeded source."""
    rows = []
    for house in range(houses):
        owners = house if ringless else houses
        holders = [("f", k) for k in range(folk)] + [("h", k) for k in range(owners)]
        rows.append(tuple(sorted(rng.choice(holders) for _ in range(rng.randrange(1, most + 1, 2)))))
    return Web(folk, tuple(rows))


def random_webs(seed, count, folk=3, houses=5, most=5):
    """Webs of all sizes up to the told ones, some of them without rings."""
    rng = random.Random(seed)
    return [random_web(rng, rng.randint(1, folk), rng.randint(0, houses), rng.choice([1, 3, most]), k % 3 == 0)
            for k in range(count)]


def holders_of(web):
    """All holders of a web, ascending."""
    return [("f", k) for k in range(web.folk)] + [("h", k) for k in range(len(web.houses))]


def shares_of(web):
    """All pairs (house, place) of the shares of a web, ascending."""
    return [(house, place) for house, shares in enumerate(web.houses) for place in range(len(shares))]


def near_web(rng, web):
    """A web with one share sold."""
    if not web.houses:
        return web
    house, place = rng.choice(shares_of(web))
    return sold(web, house, place, rng.choice(holders_of(web)))


def plain_resold(web, holders, folk=None):
    """The web in which the shares that a dict names have the holders that it tells."""
    told = Web(1, ())
    told.folk = folk or web.folk
    told.houses = tuple(tuple(sorted(holders.get((house, place), holder) for place, holder in enumerate(shares)))
                        for house, shares in enumerate(web.houses))
    return told


def picture(thing):
    """What can be seen of a thing, for a comparison with what it is later."""
    if isinstance(thing, Web):
        return ("web", thing.folk, picture(thing.houses))
    if isinstance(thing, HouseError):
        return (type(thing).__name__, repr(thing.__dict__))
    if isinstance(thing, (list, tuple)):
        return (type(thing).__name__, [picture(one) for one in thing])
    if isinstance(thing, dict):
        return ("dict", [(picture(key), picture(thing[key])) for key in thing])
    return repr(thing)


def caught(function, *told):
    """The error that a call raises, None if it raises none; what was passed must be unchanged."""
    before = picture(told)
    try:
        function(*told)
    except HouseError as error:
        assert picture(told) == before, function
        return error
    assert picture(told) == before, function
    return None


def error_of(function, *told):
    """The class and the fields of the error that a call raises, None if it raises none."""
    error = caught(function, *told)
    return None if error is None else (type(error), error.__dict__)


def kept(case, function, *told):
    """What a call tells, seen to be the same when called again, and to leave what was passed."""
    before = picture(told)
    first = function(*told)
    shown = picture(first)
    again = function(*told)
    case.assertEqual(picture(told), before)
    case.assertEqual(picture(again), shown)
    if isinstance(first, list):
        case.assertIsNot(first, again)
        first.append("more")
        case.assertEqual(picture(function(*told)), shown)
        first.pop()
    return first
