import unittest

from nofall.errors import NoSet
from nofall.oneneeds import ins, one_bound, one_need, outs

from tests import brute, samples
from tests.samples import asked_twice, same_kind

SMALL = [one for n, most in ((1, 0), (2, 4), (3, 3), (4, 2)) for one in brute.small_one_ways(n, most)]
ONES = SMALL + samples.shaped_small_one_ways() + samples.random_small_one_ways(28)
REFUSING = [(2, ()), (2, ((1, 0),)), (3, ()), (4, ((0, 1), (3, 2))), samples.round_web(5), samples.full(8)]


class InsAndOutsTest(unittest.TestCase):
    def both(self, one, some):
        return (ins(one, some), outs(one, some))

    def test_plain(self):
        self.assertEqual(self.both((2, ()), [0]), (0, 0))
        self.assertEqual(self.both((2, ((0, 1),)), [0]), (0, 1))
        self.assertEqual(self.both((2, ((0, 1),)), [1]), (1, 0))
        self.assertEqual(self.both((2, ((1, 0),)), [0]), (1, 0))
        self.assertEqual(self.both((2, ((0, 1),) * 30 + ((1, 0),) * 10), [1]), (30, 10))
        self.assertEqual(self.both(samples.line(8), [2, 3, 6]), (2, 2))
        self.assertEqual(self.both(samples.line(8), [0, 1]), (0, 1))
        self.assertEqual(self.both((3, ((0, 1), (1, 0), (0, 2))), [0, 1]), (0, 1))
        self.assertEqual(self.both(samples.full(8), [0, 2, 5]), (4, 11))

    def test_each_set(self):
        for one in ONES:
            for some in brute.proper_subsets(one[0]):
                self.assertTrue(same_kind(asked_twice(self, ins, one, some), brute.ins(one, some)), (one, some))
                self.assertTrue(same_kind(asked_twice(self, outs, one, some), brute.outs(one, some)), (one, some))

    def test_what_leads_out_leads_into_the_others(self):
        for one in ONES[::3]:
            for some in brute.proper_subsets(one[0]):
                others = [v for v in range(one[0]) if v not in some]
                self.assertEqual(self.both(one, some), self.both(one, others)[::-1])

    def test_no_set(self):
        for one in REFUSING + [(1, ())]:
            for thing in samples.no_sets(one[0]):
                self.assertRaises(NoSet, ins, one, thing)
                self.assertRaises(NoSet, outs, one, thing)

    def test_every_short_list(self):
        numbers = [-1, 0, 1, 2, 3, True]
        rows = [[]] + [[x] for x in numbers] + [[x, y] for x in numbers for y in numbers] + [[0, 1, 2]]
        right = brute.proper_subsets(3)
        for row in rows:
            if any(same_kind(row, some) for some in right):
                self.assertEqual(self.both((3, ()), row), (0, 0))
            else:
                self.assertRaises(NoSet, ins, (3, ()), row)
                self.assertRaises(NoSet, outs, (3, ()), row)


class OneNeedTest(unittest.TestCase):
    def test_from_none_to_more_than_enough(self):
        for count in range(4):
            one = (3, ((0, 1),) * count)
            for some in ([1], [1, 2]):
                for falls in (0, 1):
                    self.assertEqual(one_need(one, falls, "in", some), max(falls + 1 - count, 0))
                    self.assertEqual(one_need(one, falls, "out", some), falls + 1)
            for some in ([0], [0, 2]):
                for falls in (0, 1):
                    self.assertEqual(one_need(one, falls, "out", some), max(falls + 1 - count, 0))
                    self.assertEqual(one_need(one, falls, "in", some), falls + 1)

    def test_each_set(self):
        for one in ONES:
            for some in brute.proper_subsets(one[0]):
                for falls in (0, 1):
                    for side in ("in", "out"):
                        told = asked_twice(self, one_need, one, falls, side, some)
                        self.assertTrue(same_kind(told, brute.one_need(one, falls, side, some)), (one, falls, side))

    def test_no_set(self):
        for one in REFUSING + [(1, ())]:
            for thing in samples.no_sets(one[0]):
                for falls in (0, 1):
                    self.assertRaises(NoSet, one_need, one, falls, "in", thing)
                    self.assertRaises(NoSet, one_need, one, falls, "out", thing)


class OneBoundTest(unittest.TestCase):
    def test_plain(self):
        self.assertEqual(one_bound((2, ()), 0, "in", [[0]]), 1)
        self.assertEqual(one_bound((2, ()), 1, "in", [[0]]), 2)
        self.assertEqual(one_bound((2, ()), 1, "out", [[0], [1]]), 4)
        self.assertEqual(one_bound((3, ()), 0, "out", [[2], [0], [1]]), 3)
        self.assertEqual(one_bound(samples.line(4), 0, "in", [[0], [3]]), 1)
        self.assertEqual(one_bound(samples.line(4), 0, "out", [[0], [3]]), 1)
        self.assertEqual(one_bound(samples.line(4), 1, "in", [[0], [3]]), 3)
        self.assertEqual(one_bound(samples.round_web(8), 1, "out", [[v] for v in range(8)]), 8)
        self.assertEqual(one_bound(samples.full(8), 0, "in", [[7], [3, 4], [0]]), 1)
        self.assertEqual(one_bound(samples.full(8), 0, "in", [[7], [3, 4], [0, 5]]), 0)

    def test_the_empty_one_has_none(self):
        for one in ONES:
            for falls in (0, 1):
                for side in ("in", "out"):
                    self.assertTrue(same_kind(one_bound(one, falls, side, []), 0))

    def test_needs_together_without_a_half(self):
        families = {n: brute.all_families(n) for n in range(1, 6)}
        for one in SMALL[::2] + [samples.random_one_way(seed, 5, seed % 12) for seed in range(12)]:
            for family in families[one[0]][::3]:
                for falls in (0, 1):
                    for side in ("in", "out"):
                        told = asked_twice(self, one_bound, one, falls, side, family)
                        right = brute.one_bound(one, falls, side, family)
                        self.assertTrue(same_kind(told, right), (one, falls, side, family))

    def test_no_family(self):
        for one in REFUSING:
            for thing in samples.no_families(one[0]):
                for falls in (0, 1):
                    self.assertRaises(NoSet, one_bound, one, falls, "in", thing)
                    self.assertRaises(NoSet, one_bound, one, falls, "out", thing)
        for thing in ([[0]], [[]], [[1]], None, (), 0):
            self.assertRaises(NoSet, one_bound, (1, ()), 1, "in", thing)


if __name__ == "__main__":
    unittest.main()
