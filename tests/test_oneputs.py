import unittest

from nofall.classes import classes, firsts_and_lasts
from nofall.families import is_family
from nofall.onelook import one_stands
from nofall.oneputs import one_puts

from tests import brute, samples
from tests.samples import asked_twice, same_kind

SMALL = [one for n, most in ((1, 0), (2, 4), (3, 4), (4, 3)) for one in brute.small_one_ways(n, most)]
GREATER = samples.shaped_small_one_ways() + samples.random_small_one_ways(112)
# By the one side more are needed than by the other one.
MORE_INS = (8, tuple((v, 7) for v in range(7)))
MORE_OUTS = (8, tuple((7, v) for v in range(7)))


class OnePutsTest(unittest.TestCase):
    def look_at(self, one, falls):
        told = asked_twice(self, one_puts, one, falls)
        self.assertIs(type(told), tuple)
        added, side, family = told
        self.assertTrue(brute.are_leads(one[0], added), (one, falls, added))
        self.assertIs(type(side), str)
        self.assertIn(side, ("in", "out"))
        self.assertTrue(is_family(one[0], family), (one, falls, family))
        self.assertTrue(one_stands(brute.web_with(one, added), falls), (one, falls, added))
        self.assertEqual(len(added), brute.one_bound(one, falls, side, family), (one, falls, told))
        return len(added)

    def test_one_place_alone(self):
        for falls in (0, 1):
            added, side, family = one_puts((1, ()), falls)
            self.assertTrue(same_kind((added, family), ([], [])))
            self.assertIn(side, ("in", "out"))

    def test_plain(self):
        self.assertEqual(one_puts((2, ()), 0)[0], [(0, 1), (1, 0)])
        self.assertEqual(one_puts((2, ()), 1)[0], [(0, 1), (0, 1), (1, 0), (1, 0)])
        self.assertEqual(one_puts((2, ((0, 1),)), 0)[0], [(1, 0)])
        self.assertEqual(one_puts((2, ((1, 0),)), 1)[0], [(0, 1), (0, 1), (1, 0)])
        self.assertEqual(one_puts(samples.line(8), 0)[0], [(7, 0)])
        self.assertEqual(one_puts((2, ((0, 1),) * 40), 1)[0], [(1, 0), (1, 0)])

    def test_how_many(self):
        for one, falls, count in (((3, ()), 0, 3), ((3, ()), 1, 6), ((8, ()), 0, 8), ((8, ()), 1, 16),
                                  (samples.line(8), 1, 9), (samples.round_web(8), 0, 0), (samples.round_web(8), 1, 8),
                                  (MORE_INS, 0, 7), (MORE_OUTS, 0, 7), (MORE_INS, 1, 14), (MORE_OUTS, 1, 14),
                                  ((4, ((0, 1),) * 20 + ((3, 2),) * 20), 0, 2),
                                  ((5, ((0, 1), (1, 0), (1, 2), (3, 2))), 0, 3)):
            self.assertEqual(self.look_at(one, falls), count, (one, falls))

    def test_the_side_that_needs_more(self):
        self.assertEqual(one_puts(MORE_INS, 0)[1], "in")
        self.assertEqual(one_puts(MORE_OUTS, 0)[1], "out")

    def test_small_ones(self):
        for one in SMALL:
            for falls in (0, 1):
                self.look_at(one, falls)

    def test_greater_ones(self):
        for one in GREATER:
            for falls in (0, 1):
                self.look_at(one, falls)

    def test_from_none_to_forty_ties(self):
        for n in range(2, 9):
            for count in range(0, 41, 4):
                one = samples.random_one_way(50 * n + count, n, count)
                for falls in (0, 1):
                    self.look_at(one, falls)

    def test_forty_ties_and_more_with_those_put_in(self):
        one = (8, ((0, 7),) * 20 + ((4, 3),) * 20)
        for falls in (0, 1):
            self.assertEqual(self.look_at(one, falls), (6, 12)[falls])

    def test_it_stands_each_fall_gone_through(self):
        for one in SMALL[::3] + GREATER[::2]:
            for falls in (0, 1):
                self.assertTrue(brute.one_stands(brute.web_with(one, one_puts(one, falls)[0]), falls), (one, falls))

    def test_no_fewer_do(self):
        ones = [one for n, most in ((1, 0), (2, 3), (3, 2)) for one in brute.small_one_ways(n, most)]
        for one in ones:
            for falls in (0, 1):
                self.assertFalse(brute.fewer_leads_do(one, falls, len(one_puts(one, falls)[0])), (one, falls))
        for seed in range(20):
            one = samples.random_one_way(seed, 4, 2 + seed % 5)
            self.assertFalse(brute.fewer_leads_do(one, 0, len(one_puts(one, 0)[0])), one)
        for seed in range(20):
            one = samples.random_one_way(seed, 3, 3 + seed % 4)
            self.assertFalse(brute.fewer_leads_do(one, 1, len(one_puts(one, 1)[0])), one)

    def test_without_falls_as_many_as_firsts_or_lasts_and_those_alone(self):
        for one in SMALL + GREATER:
            firsts, lasts, alone = firsts_and_lasts(one)
            several = len(classes(one)) > 1
            count = max(len(firsts), len(lasts)) + len(alone) if several else 0
            self.assertEqual(len(one_puts(one, 0)[0]), count, one)

    def test_none_where_it_stands_already(self):
        seen = 0
        for one in SMALL[::3] + GREATER:
            for falls in (0, 1):
                standing = brute.one_stands(one, falls)
                seen += standing
                self.assertEqual(one_puts(one, falls)[0] == [], standing, (one, falls))
        self.assertGreater(seen, 30)

    def test_asked_with_them_none_are_told(self):
        for one in GREATER[::5]:
            for falls in (0, 1):
                added, side, family = one_puts(brute.web_with(one, one_puts(one, falls)[0]), falls)
                self.assertEqual(added, [])
                self.assertTrue(is_family(one[0], family))


if __name__ == "__main__":
    unittest.main()
