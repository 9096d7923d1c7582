"""Webs of many shapes, things of many kinds, and what the tests do to told answers."""

from random import Random


class Thing:
    pass


def nested(depth, kind):
    thing = kind()
    for step in range(depth - 1):
        thing = kind([thing])
    return thing


def things():
    """Things of kinds that are no whole number: made anew at each call."""
    return [None, True, False, "", "0", "1", "tie", "ways", 0.0, 1.0, 2.5, float("nan"), float("inf"), 1j, b"0",
            [], [0], [1, 2], [None], (), (0,), (0, 1), (1, 0), {}, {0: 1}, {0}, frozenset([1]), range(2), Thing(),
            Thing, len, nested(60, list), nested(60, tuple), [[0], []], ([0], []), (True, False)]


def no_numbers(limit):
    """What is no whole number from 0 to limit - 1."""
    return things() + [-1, -2, -limit, limit, limit + 1, 99, 10 ** 29, -10 ** 29]


def line(n):
    return (n, tuple((v, v + 1) for v in range(n - 1)))


def ring(n):
    return (n, tuple(sorted([(v, v + 1) for v in range(n - 1)] + [(0, n - 1)])))


def full(n):
    return (n, tuple((a, b) for a in range(n) for b in range(a + 1, n)))


def random_web(seed, n, count):
    chance = Random(seed)
    ties = []
    while len(ties) < count:
        a, b = chance.randrange(n), chance.randrange(n)
        if a < b:
            ties.append((a, b))
    return (n, tuple(sorted(ties)))


def random_one_way(seed, n, count):
    chance = Random(seed)
    ties = []
    while len(ties) < count:
        a, b = chance.randrange(n), chance.randrange(n)
        if a != b:
            ties.append((a, b))
    return (n, tuple(sorted(ties)))


TWO_RINGS = (6, ((0, 1), (0, 2), (1, 2), (2, 3), (3, 4), (3, 5), (4, 5)))
BOW = (5, ((0, 1), (0, 2), (1, 2), (2, 3), (2, 4), (3, 4)))
STAR = (5, ((0, 2), (1, 2), (2, 3), (2, 4)))
ALIKE = (4, ((0, 1), (0, 1), (1, 2), (2, 3), (2, 3)))
SCATTERED = (9, ((0, 4), (1, 2), (1, 2), (3, 5), (3, 8), (5, 8)))


def shaped_webs():
    return [(1, ()), (2, ()), (2, ((0, 1),)), (2, ((0, 1), (0, 1))), (16, ()), (2, ((0, 1),) * 40),
            line(3), line(16), ring(3), ring(4), ring(16), full(4), full(8), TWO_RINGS, BOW, STAR, ALIKE, SCATTERED]


def random_webs():
    told = []
    for seed, n in enumerate([5, 6, 7, 8, 9, 10, 11, 12, 13, 14, 15, 16] * 3):
        told.append(random_web(seed, n, [n - 2, n, n + n // 2][seed % 3]))
    return told + [random_web(seed, 16, 40) for seed in range(100, 104)]


def random_one_ways():
    told = []
    for seed, n in enumerate([4, 6, 8, 10, 12, 14, 16] * 3):
        told.append(random_one_way(seed, n, [n, n + n // 2, 2 * n][seed % 3]))
    return told + [random_one_way(seed, 16, 40) for seed in range(200, 204)]


def copied(thing):
    if isinstance(thing, list):
        return [copied(one) for one in thing]
    return tuple(copied(one) for one in thing) if isinstance(thing, tuple) else thing


def spoil(told):
    """Changes every list within what was told."""
    if isinstance(told, (list, tuple)):
        for thing in told:
            spoil(thing)
    if isinstance(told, list):
        told.append("spoilt")
        told.reverse()
        told[1:] = []


def same_kind(one, other):
    """Alike in value and kind all through: a truth is no number, a tuple no list."""
    if type(one) is not type(other):
        return False
    if isinstance(one, (list, tuple)):
        return len(one) == len(other) and all(same_kind(x, y) for x, y in zip(one, other))
    return one == other


def asked_twice(test, ask, *given):
    """Asks, spoils the answer, asks again: the second answer is as the first was, and nothing given has changed."""
    before = copied(given)
    told = ask(*given)
    first = copied(told)
    test.assertTrue(same_kind(given, before), (ask, before))
    spoil(told)
    test.assertTrue(same_kind(given, before), (ask, before))
    again = ask(*given)
    test.assertTrue(same_kind(again, first), (ask, before, first, again))
    return again


def shaped_small_webs():
    """Of the shaped webs those with at most eight places, and some more with very many or few ties."""
    return [web for web in shaped_webs() if web[0] <= 8] + [
        (8, ()), line(8), ring(8), (7, ((0, 3), (1, 2), (1, 2), (4, 6))), (8, ((0, 7),) * 20 + ((3, 4),) * 20),
        (8, tuple((v, 7) for v in range(7))), (6, ((0, 1), (0, 1), (2, 3), (2, 3), (4, 5), (4, 5))),
        (8, tuple(sorted(full(8)[1] + ring(8)[1] + ((0, 4), (1, 5), (2, 6), (3, 7)))))]


def random_small_webs(count):
    """Webs of five to eight places with ties from none to forty."""
    told = []
    for seed in range(count):
        n = 5 + seed % 4
        counts = [seed % n, n // 2, n - 1, n, n + n // 2, 2 * n, 40]
        told.append(random_web(1000 + seed, n, counts[seed % 7]))
    return told


def long_things():
    """Lists of up to four hundred things, some with right ones among them."""
    return [[0] * 400, list(range(400)), [0, 1] * 200, [[0]] * 400, [[v] for v in range(400)], [(0, 1)] * 300,
            [True] * 400, ["0"] * 400, [None] * 400, [[]] * 400, [10 ** 29] * 400, (0,) * 400, ((0, 1),) * 400]


def no_sets(n):
    """What is no set of one place or more of n places, and not of all."""
    places = list(range(n))
    told = [places, tuple(places), places + [n], [], (), (0,), (0, 1), [0, 0], [1, 0], [0, 1, 0], [1, 1, 0], [2, 1, 0],
            [n], [-1], [-1, 0], [0, n], [n - 1, n], [-n], [0, 10 ** 29], [True], [False], [0, True], [False, 1],
            [0, 1.0], [0.0], ["0"], [0, "1"], [None], [0, None], [[0]], [0, [1]], [(0,)], [{}], {0: True}, {0: 0, 1: 1},
            {0}, 0, 1, -1, n, 10 ** 29, "0", "01", b"0", [b"0"], [Thing()], [float("nan")], range(1), iter([0])]
    if n > 1:
        told.append(list(reversed(places)))
    rising = [[0], [1, 2]]
    told += [thing for thing in things() if not any(same_kind(thing, some) for some in rising)]
    return told + long_things() + [some for some in rising if max(some) >= n or len(some) >= n]


def no_families(n):
    """What is no family of n places, two or more."""
    told = [(), ([0],), ([0], [1]), [(0,)], [(0,), (1,)], [[0], (1,)], [[0], [0]], [[0], [1], [0]], [[0, 1], [1]],
            [[0], [0, 1]], [list(range(n))], [[0], list(range(n))], [[]], [[0], []], [[1, 0]], [[0, 0]], [[n]],
            [[0], [n]], [[-1]], [[True]], [[False]], [[0], [True]], [True], [False], [0], [0, 1], ["0"], [["0"]],
            [None], [[None]], [[0], None], [[[0]]], [[0], [[1]]], {0: [0]}, {"family": []}, {0}, "", "family", None,
            True, False, 0, 1, -1, [[0.0]], [{0: 0}], [{0}], [range(1)], range(0), iter([]), [[0]] * 400,
            [[v] for v in range(400)], [list(range(400))], [[10 ** 29]], nested(60, list), nested(60, tuple), Thing()]
    return told + [thing for thing in things() if not same_kind(thing, [])]


def no_added(n):
    """What are no added ties of n places, two or more."""
    last = n - 1
    told = [((0, 1),), (), [[0, 1]], [(1, 0)], [(last, 0)], [(0, 0)], [(last, last)], [(0, n)], [(-1, 0)], [(-n, 1)],
            [(0, 10 ** 29)], [(0,)], [()], [(0, 1, 1)], [(0, 1, 2)], [((0, 1),)], [(0, True)], [(False, 1)],
            [(False, True)], [(0, 1.0)], [("0", "1")], ["01"], [None], [(0, None)], [(None, None)], [([0], [1])],
            [(0, [1])], [0, 1], [0], [True], [{0: 1}], [{0, 1}], {(0, 1): True}, {(0, 1)}, {0: 1}, {}, "", "01", None,
            True, False, 0, 1, -1, 10 ** 29, 2.5, b"", range(0), iter([]), [range(2)], [(0, 1), None], [(0, 1), [0, 1]],
            [(0, 1), (1, 0)], [(0, 1), (0, 1, 1)], [(0, 1)] * 299 + [(1, 0)], [(1, 0)] * 300, [(0, True)] * 300,
            [None] * 300, ((0, 1),) * 300, Thing(), nested(60, list), nested(60, tuple)]
    if n > 2:
        told += [[(0, 2), (0, 1)], [(1, 2), (0, 1)], [(0, 1), (1, 2), (0, 2)], [(0, 1), (0, 2), (0, 1)]]
    return told + [thing for thing in things() if not same_kind(thing, [])]


def round_web(n):
    """A one-way ring."""
    return (n, tuple(sorted((v, (v + 1) % n) for v in range(n))))


def shaped_small_one_ways():
    both = tuple(sorted(ring(6)[1] + tuple((b, a) for a, b in ring(6)[1])))
    return [(1, ()), (2, ()), (2, ((0, 1),)), (2, ((1, 0),)), (2, ((0, 1), (1, 0))), (2, ((0, 1),) * 40), (8, ()),
            (2, ((0, 1),) * 20 + ((1, 0),) * 20), line(3), line(8), round_web(3), round_web(8), full(4), full(8),
            (8, tuple(sorted(round_web(8)[1] * 2))), (6, both), (5, ((0, 1), (1, 0), (1, 2), (3, 2))),
            (8, tuple((7, v) for v in range(7))), (8, tuple((v, 7) for v in range(7))),
            (6, ((0, 1), (1, 2), (2, 0), (3, 4), (4, 5), (5, 3))), (8, ((0, 7),) * 20 + ((4, 3),) * 20),
            (7, ((0, 3), (1, 2), (2, 1), (2, 1), (3, 0), (4, 6), (6, 5))), (8, ((0, 1), (2, 3), (4, 5), (6, 7))),
            (7, ((0, 6), (1, 6), (2, 6), (6, 3), (6, 4), (6, 5)))]


def random_small_one_ways(count):
    """One-way webs of two to eight places with ties from none to forty."""
    told = []
    for seed in range(count):
        n = 2 + seed % 7
        counts = [seed % n, n // 2, n - 1, n, n + n // 2, 2 * n, 3 * n, 40]
        told.append(random_one_way(2000 + seed, n, counts[seed % 8]))
    return told


def no_leads(n):
    """What are no added ties of a one-way web of n places, two or more."""
    led_back = ([(1, 0)], [(n - 1, 0)], [(0, 1), (1, 0)], [(1, 0)] * 300, [(0, 1)] * 299 + [(1, 0)])
    told = [thing for thing in no_added(n) if not any(same_kind(thing, right) for right in led_back)]
    return told + [[(1, 0), (0, 1)], [(1, 0), (1, 0), (0, 1)], [(0, 1)] * 200 + [(1, 0)] + [(0, 1)] * 99, [(1, 1)]]


def no_sides():
    told = ["", "i", "inn", "In", "IN", "in ", " in", "outs", "out\n", "ou", "inout", "side", "n", b"in", b"out",
            ["in"], ("in",), ("out",), {"in": 0}, {"out"}, ["out"], ["i", "n"], ("in", "out"), ["in", "out"], 0, 1, -1]
    return told + things()


def no_offers(n):
    """What are no offers of a web of n places, two or more."""
    right = (0, 1, 5)
    told = [[right] * 9, (right,) * 9, [right] * 400, [(0, 1)], [()], [(0,)], [(0, 1, 5, 5)], [[0, 1, 5]], ([0, 1, 5],),
            [(0, 0, 1)], [(n - 1, n - 1, 0)], [(0, n, 1)], [(n, 0, 1)], [(-1, 0, 1)], [(0, -1, 1)], [(-n, 1, 1)],
            [(10 ** 29, 0, 1)], [(True, 0, 1)], [(0, True, 1)], [(False, 1, 1)], [(0, 1, -1)], [(0, 1, -10 ** 29)],
            [(0, 1, True)], [(0, 1, False)], [(0, 1, "1")], [(0, 1, "")], [(0, 1, None)], [(0, 1, 1.0)], [(0, 1, [1])],
            [(0, 1, (1,))], [("0", "1", 1)], [(0, None, 1)], [(None, 1, 1)], [([0], [1], 1)], [(0, 1.0, 1)], ["015"],
            [0], [0, 1, 5], (0, 1, 5), [None], [True], [{0: 1}], [{0, 1, 5}], [range(3)], {right: True}, {right}, {},
            {0: right}, "", "offers", "015", 0, 1, 5, -1, 10 ** 29, None, True, False, 2.5, b"", range(0), iter([]),
            [right, None], [right, [0, 1, 5]], [right, (0, 1)], (right, (1, 1, 1)), [right, (0, 1, -1)], Thing()]
    told += [[right] * 7 + [(0, 1, -1)], [(0, 1, thing) for thing in (0, None)], nested(60, list), nested(60, tuple)]
    told += [[(0, 1, thing)] for thing in things()] + [[(thing, 1, 0)] for thing in things()]
    return told + [thing for thing in things() if thing != [] and thing != ()] + long_things()


def random_offers(seed, n, count, costs):
    chance = Random(seed)
    return [tuple(chance.sample(range(n), 2)) + (chance.choice(costs),) for step in range(count)]


GREAT_COST = 10 ** 30 - 1


def offered_webs(count):
    """Webs of one to eight places, each with offers."""
    line_offers = [(0, 2, 3), (2, 0, 2), (1, 0, 1), (1, 2, 1)]
    told = [((1, ()), []), ((1, ()), ()), ((2, ()), []), ((2, ((0, 1),)), [(1, 0, 4)]), (ring(8), []),
            ((2, ()), [(0, 1, 2), (1, 0, 3), (0, 1, 2)]), (line(3), line_offers), (line(3), tuple(line_offers)),
            (line(8), [(0, 4, 2), (3, 7, 2), (0, 7, 5)]), (ring(8), [(0, 4, 0)]), ((4, ()), [(0, 1, 1), (2, 3, 1)] * 4),
            ((3, ()), [(0, 1, GREAT_COST), (1, 2, GREAT_COST), (2, 0, GREAT_COST), (0, 1, 1)]),
            ((8, ()), [(v, (v + 1) % 8, v) for v in range(8)]), (full(8), [(0, 1, 0)] * 8), (STAR, [(0, 1, 0)] * 8)]
    for seed in range(count):
        n = 2 + seed % 7
        web = random_web(3000 + seed, n, [n - 1, n, n - 2, n + 1, 0, 2 * n][seed % 6])
        costs = [[0, 1, 2, 3], [1, 5, 7, 9], [0], [10 ** 29, GREAT_COST, 3]][seed % 4]
        told.append((web, random_offers(seed, n, 3 + seed % 6, costs)))
    return told


def no_webs():
    """What is no web, whatever its kind; some are one-way webs."""
    told = [(2, ((1, 0),)), (3, ((0, 1), (2, 1))), (3, ((1, 2), (0, 1))), (3, ((0, 2), (0, 1))), [2, ((0, 1),)],
            (2, [(0, 1)]), (2, []), [2, []], (2, ([0, 1],)), (2,), (2, (), ()), (2, ((0, 1),), ()), (((0, 1),),),
            (2, (0, 1)), (2, ((0, 1),) * 41), (2, ((0, 1),) * 400), (0, ()), (17, ()), (-1, ()), (10 ** 29, ()),
            (True, ()), ("2", ()), (None, ()), (2.0, ()), (2, ((0, 2),)), (2, ((0, 0),)), (2, ((-1, 0),)),
            (2, ((0, True),)), (2, ((0, 1, 1),)), (2, ((0,),)), (2, (None,)), (2, None), (2, "01"), (2, {(0, 1): 0}),
            (2, ((0, "1"),)), (1, ((0, 1),)), "places 2", "places 2\ntie 0 1", {2: ()}, {0: 2, 1: ()}, 0, 1, 2, -1,
            [(0, 1)], ((2, ()),), [(2, ())], (16, ((0, 16),)), (2, ((0, 1), None)), (2, (((0, 1),),)), iter([])]
    return told + things() + long_things() + [(5, thing) for thing in things() if thing != ()]
