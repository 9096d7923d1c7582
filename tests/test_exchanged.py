import unittest
from itertools import permutations
from random import Random

from nofall.blocks import blocks, inners
from nofall.classes import classes, firsts_and_lasts
from nofall.errors import NoOrder
from nofall.exchanged import (exchanged_family, exchanged_offers, exchanged_one_way, exchanged_set, exchanged_ties,
                              exchanged_web)
from nofall.falls import cut_places
from nofall.families import best_family, bound
from nofall.looker import lets_by
from nofall.needs import need
from nofall.offers import cheapest
from nofall.onelook import one_lets_by
from nofall.oneputs import one_puts
from nofall.parts import parts
from nofall.pieces import ends, pieces
from nofall.placelook import place_lets_by
from nofall.placeputs import place_puts
from nofall.puts import puts
from nofall.tries import tree_holds
from nofall.webs import is_one_way, is_web

from tests import samples
from tests.samples import asked_twice, same_kind

BY_SETS = (exchanged_set, exchanged_family, exchanged_ties, exchanged_offers)


def order_of(seed, n):
    order = list(range(n))
    Random(seed).shuffle(order)
    return order


def turned_about(order):
    told = [None] * len(order)
    for v, w in enumerate(order):
        told[w] = v
    return told


def no_orders(n):
    """What is no order of n places, nor of as many as it has."""
    right = list(range(n))
    told = [right[:-1] + [n], right[1:] + [n], [n] * n, [-1] + right[1:], right[:-1] + [-1], tuple(right), (), "", "0",
            [True] + right[1:], [False] + right[1:], [0.0] + right[1:], ["0"] + right[1:], [None] * n, None, 0, 1, n,
            right[:-1] + [None], right[:-1] + [[n - 1]], [right], {v: v for v in right}, set(right), range(n),
            right[:-1] + [10 ** 29], iter(right), [v + 1 for v in right], right + [right[-1]], [0] * 400,
            list(range(399)) + [400], [str(v) for v in right], b"\x00", "01"[:n]]
    if n > 1:
        told += [[0] * n, [1] + right[1:], right[:-1] + [True], [0, 0] + right[2:], right[:-1] + [n - 2]]
    return told + [thing for thing in samples.things() if thing not in ([], [0])]


class ExchangeTest(unittest.TestCase):
    def same(self, told, right):
        self.assertTrue(same_kind(told, right), (told, right))

    def test_webs(self):
        self.same(exchanged_web((3, ((0, 1), (1, 2))), [2, 0, 1]), (3, ((0, 1), (0, 2))))
        self.same(exchanged_web((4, ((0, 1), (0, 1), (2, 3))), [3, 1, 2, 0]), (4, ((0, 2), (1, 3), (1, 3))))
        self.same(exchanged_web((1, ()), [0]), (1, ()))

    def test_one_way_webs(self):
        self.same(exchanged_one_way((3, ((0, 1), (1, 2))), [2, 0, 1]), (3, ((0, 1), (2, 0))))
        self.same(exchanged_one_way((3, ((0, 1), (1, 0), (1, 2))), [1, 2, 0]), (3, ((1, 2), (2, 0), (2, 1))))
        self.same(exchanged_one_way((1, ()), [0]), (1, ()))

    def test_sets(self):
        self.same(exchanged_set([0, 2], [3, 1, 0, 2]), [0, 3])
        self.same(exchanged_set([0, 1, 2, 3], [3, 1, 0, 2]), [0, 1, 2, 3])
        self.same(exchanged_set([], [1, 0]), [])
        self.same(exchanged_set([0], [0]), [0])
        self.same(exchanged_set([], []), [])

    def test_families(self):
        self.same(exchanged_family([[3], [0, 2]], [3, 1, 0, 2]), [[2], [0, 3]])
        self.same(exchanged_family([[0, 2], [3]], [3, 1, 0, 2]), [[0, 3], [2]])
        self.same(exchanged_family([[0, 1], [0, 1, 2], []], [2, 1, 0]), [[1, 2], [0, 1, 2], []])
        self.same(exchanged_family([], [0, 1]), [])

    def test_added_ties(self):
        self.same(exchanged_ties([(0, 1), (0, 1), (1, 2)], [2, 1, 0]), [(0, 1), (1, 2), (1, 2)])
        self.same(exchanged_ties([(0, 2)], [1, 2, 0]), [(0, 1)])
        self.same(exchanged_ties([], [1, 0]), [])

    def test_offers(self):
        offers = [(2, 0, 5), (0, 1, 0), (0, 1, 0), (1, 2, 10 ** 29)]
        right = [(0, 2, 5), (2, 1, 0), (2, 1, 0), (1, 0, 10 ** 29)]
        self.same(exchanged_offers(offers, [2, 1, 0]), right)
        self.same(exchanged_offers(tuple(offers), [2, 1, 0]), right)
        self.same(exchanged_offers((), [0]), [])

    def test_each_order_of_four(self):
        web, one = samples.ALIKE, (4, ((0, 1), (1, 0), (1, 0), (3, 2)))
        for row in permutations(range(4)):
            order = list(row)
            for made, given, exchange in ((web, web, exchanged_web), (one, one, exchanged_one_way)):
                told = asked_twice(self, exchange, given, order)
                led = sorted((order[a], order[b]) for a, b in made[1])
                right = sorted(tuple(sorted(tie)) for tie in led) if exchange is exchanged_web else led
                self.same(told, (4, tuple(right)))

    def test_told_twice_and_turned_about(self):
        for seed in range(60):
            n = 1 + seed % 16
            order = order_of(seed, n)
            about = turned_about(order)
            count = 0 if n == 1 else seed % 41
            web, one = samples.random_web(seed, n, count), samples.random_one_way(seed, n, count)
            family = [sorted(Random(seed + k).sample(range(n), Random(k).randrange(n + 1))) for k in range(4)]
            offers = samples.random_offers(seed, n, 5, [0, 3, 10 ** 29]) if n > 1 else []
            for exchange, thing in ((exchanged_web, web), (exchanged_one_way, one), (exchanged_family, family),
                                    (exchanged_ties, list(web[1])), (exchanged_offers, offers),
                                    (exchanged_set, family[0])):
                told = asked_twice(self, exchange, thing, order)
                self.same(exchange(told, about), thing)
                self.same(exchange(thing, list(range(n))), thing)
            self.assertTrue(is_web(exchanged_web(web, order)))
            self.assertTrue(is_one_way(exchanged_one_way(one, order)))

    def test_the_order_that_exchanges_nothing_tells_a_copy(self):
        some, family, added, offers = [0, 2], [[0], [1, 2]], [(0, 1)], [(2, 0, 1)]
        for exchange, thing in zip(BY_SETS, (some, family, added, offers)):
            told = exchange(thing, [0, 1, 2])
            self.same(told, thing)
            self.assertIsNot(told, thing)
            samples.spoil(told)
        self.same((some, family, added, offers), ([0, 2], [[0], [1, 2]], [(0, 1)], [(2, 0, 1)]))

    def test_more_than_forty_ties(self):
        web = (2, ((0, 1),) * 60)
        self.same(exchanged_web(web, [1, 0]), web)
        self.same(exchanged_one_way(web, [1, 0]), (2, ((1, 0),) * 60))


class NoOrderTest(unittest.TestCase):
    def test_no_order(self):
        for n in (1, 2, 3, 8, 16):
            for thing in no_orders(n):
                self.assertRaises(NoOrder, exchanged_web, (n, ()), thing)
                self.assertRaises(NoOrder, exchanged_one_way, (n, ()), thing)
                for exchange in BY_SETS:
                    self.assertRaises(NoOrder, exchange, [], thing)

    def test_whatever_is_exchanged(self):
        for thing in ([0, 0, 1], (0, 1, 2), None, [1, 2, 3], [0, 1, True], [0, 2]):
            self.assertRaises(NoOrder, exchanged_web, (3, ((0, 1), (1, 2))), thing)
            self.assertRaises(NoOrder, exchanged_one_way, (3, ((0, 1), (2, 1))), thing)
            for exchange, given in zip(BY_SETS, ([0, 1], [[0], [1]], [(0, 1)], [(1, 0, 3)])):
                self.assertRaises(NoOrder, exchange, given, thing)

    def test_an_order_of_more_or_fewer_places_than_the_web_has(self):
        for n in range(1, 16):
            for count in list(range(n)) + list(range(n + 1, n + 4)):
                self.assertRaises(NoOrder, exchanged_web, (n, ()), list(range(count)))
                self.assertRaises(NoOrder, exchanged_one_way, (n, ()), list(range(count)))

    def test_every_short_list(self):
        numbers = [-1, 0, 1, 2, True]
        rows = [[]] + [[x] for x in numbers] + [[x, y] for x in numbers for y in numbers]
        for row in rows:
            if any(same_kind(row, right) for right in ([0, 1], [1, 0])):
                exchanged_web((2, ()), row)
            else:
                self.assertRaises(NoOrder, exchanged_web, (2, ()), row)
            if any(same_kind(row, right) for right in ([], [0], [0, 1], [1, 0])):
                self.assertEqual(exchanged_family([], row), [])
            else:
                self.assertRaises(NoOrder, exchanged_family, [], row)


class AllIsExchangedTest(unittest.TestCase):
    def test_parts_pieces_and_blocks(self):
        for seed, web in enumerate(samples.shaped_webs() + samples.random_webs()):
            order = order_of(seed, web[0])
            made = exchanged_web(web, order)
            for ask in (parts, pieces, blocks, inners):
                self.assertEqual(ask(made), sorted(exchanged_family(ask(web), order)), (ask, web, order))
            self.assertEqual(cut_places(made), exchanged_set(cut_places(web), order))
            self.assertEqual([len(numbers) for numbers in ends(made)], [len(numbers) for numbers in ends(web)])

    def test_classes(self):
        for seed, one in enumerate(samples.random_one_ways()):
            order = order_of(seed, one[0])
            made = exchanged_one_way(one, order)
            self.assertEqual(classes(made), sorted(exchanged_family(classes(one), order)))
            for which in range(3):
                told = [exchanged_set(classes(one)[number], order) for number in firsts_and_lasts(one)[which]]
                there = [classes(made)[number] for number in firsts_and_lasts(made)[which]]
                self.assertEqual(there, sorted(told))

    def test_ties_put_in(self):
        for seed, web in enumerate(samples.shaped_small_webs() + samples.random_small_webs(30)):
            order = order_of(seed, web[0])
            made = exchanged_web(web, order)
            for falls in (1, 2):
                added, family = puts(web, falls)
                self.assertEqual(len(puts(made, falls)[0]), len(added))
                told = (exchanged_ties(added, order), exchanged_family(family, order))
                self.assertIs(lets_by(made, falls, *told), True, (web, order, falls))
                best = exchanged_family(best_family(web, falls), order)
                self.assertEqual(bound(made, falls, best), bound(made, falls, best_family(made, falls)))
                for some in family:
                    self.assertEqual(need(made, falls, exchanged_set(some, order)), need(web, falls, some))
            added, paper = place_puts(web)
            self.assertEqual(len(place_puts(made)[0]), len(added))
            thing = exchanged_family(paper[1], order) if paper[0] == "family" else order[paper[1]]
            self.assertIs(place_lets_by(made, exchanged_ties(added, order), (paper[0], thing)), True)

    def test_ties_put_in_one_way_webs(self):
        for seed, one in enumerate(samples.shaped_small_one_ways() + samples.random_small_one_ways(28)):
            order = order_of(seed, one[0])
            made = exchanged_one_way(one, order)
            for falls in (0, 1):
                added, side, family = one_puts(one, falls)
                self.assertEqual(len(one_puts(made, falls)[0]), len(added))
                led = list(exchanged_one_way((one[0], tuple(added)), order)[1])
                self.assertIs(one_lets_by(made, falls, led, side, exchanged_family(family, order)), True)

    def test_least_costs(self):
        for seed, (web, offers) in enumerate(samples.offered_webs(40)):
            order = order_of(seed, web[0])
            made, given = exchanged_web(web, order), exchanged_offers(offers, order)
            told, there = cheapest(web, offers), cheapest(made, given)
            self.assertEqual(told[0], there[0])
            if told[0] == "cheapest":
                self.assertEqual(told[1], there[1])
                self.assertIs(tree_holds(made, given, told[1], self.exchanged_tree(told[3], order)), True)
            else:
                self.assertIs(tree_holds(made, given, 7, ("barred", exchanged_set(told[1], order))), True)

    def exchanged_tree(self, tree, order):
        if tree[0] == "try":
            return tree[:2] + (self.exchanged_tree(tree[2], order), self.exchanged_tree(tree[3], order))
        if tree[0] == "barred":
            return ("barred", exchanged_set(tree[1], order))
        return ("weights", [(exchanged_set(some, order), weight) for some, weight in tree[1]])


if __name__ == "__main__":
    unittest.main()
