import unittest

from nofall.errors import NoSet
from nofall.needs import leaving, need

from tests import brute, samples
from tests.samples import asked_twice, same_kind

SMALL = [web for n, most in ((1, 0), (2, 4), (3, 4), (4, 3)) for web in brute.small_webs(n, most)]
WEBS = SMALL + samples.shaped_small_webs() + samples.random_small_webs(24)


class LeavingTest(unittest.TestCase):
    def test_plain(self):
        self.assertEqual(leaving((2, ()), [0]), 0)
        self.assertEqual(leaving((2, ((0, 1),)), [1]), 1)
        self.assertEqual(leaving((2, ((0, 1),) * 40), [1]), 40)
        self.assertEqual(leaving(samples.BOW, [0, 1]), 2)
        self.assertEqual(leaving(samples.BOW, [2]), 4)
        self.assertEqual(leaving(samples.BOW, [0, 3]), 4)
        self.assertEqual(leaving(samples.ALIKE, [0]), 2)
        self.assertEqual(leaving(samples.ALIKE, [0, 1]), 1)
        self.assertEqual(leaving(samples.full(8), [0, 2, 5]), 15)

    def test_each_set(self):
        for web in WEBS:
            for some in brute.proper_subsets(web[0]):
                told = asked_twice(self, leaving, web, some)
                self.assertTrue(same_kind(told, brute.leaving(web, some)), (web, some))

    def test_the_other_places_have_the_same(self):
        for web in WEBS[::3]:
            for some in brute.proper_subsets(web[0]):
                others = [v for v in range(web[0]) if v not in some]
                self.assertEqual(leaving(web, others), leaving(web, some))
                for falls in (1, 2):
                    self.assertEqual(need(web, falls, others), need(web, falls, some))


class NeedTest(unittest.TestCase):
    def test_from_none_to_more_than_enough(self):
        for count, needs in enumerate([(2, 3), (1, 2), (0, 1), (0, 0), (0, 0)]):
            web = (3, ((0, 1),) * count)
            for some in ([0], [1], [0, 2], [1, 2]):
                self.assertEqual((need(web, 1, some), need(web, 2, some)), needs)
            for some in ([2], [0, 1]):
                self.assertEqual((need(web, 1, some), need(web, 2, some)), (2, 3))

    def test_each_set(self):
        for web in WEBS:
            for some in brute.proper_subsets(web[0]):
                for falls in (1, 2):
                    told = asked_twice(self, need, web, falls, some)
                    self.assertTrue(same_kind(told, brute.need(web, falls, some)), (web, falls, some))


class NoSetTest(unittest.TestCase):
    def test_no_set(self):
        for web in ((1, ()), (2, ()), (2, ((0, 1),)), (3, ()), samples.ALIKE, samples.BOW, samples.full(8)):
            for thing in samples.no_sets(web[0]):
                self.assertRaises(NoSet, leaving, web, thing)
                for falls in (1, 2):
                    self.assertRaises(NoSet, need, web, falls, thing)

    def test_one_place_has_no_set(self):
        for thing in ([0], [], [1], [-1]):
            self.assertRaises(NoSet, leaving, (1, ()), thing)

    def test_every_short_list(self):
        numbers = [-1, 0, 1, 2, 3, True]
        rows = [[]] + [[x] for x in numbers] + [[x, y] for x in numbers for y in numbers]
        rows += [[x, y, z] for x in numbers for y in numbers for z in numbers]
        right = brute.proper_subsets(3)
        for row in rows:
            if any(same_kind(row, some) for some in right):
                self.assertEqual(leaving((3, ()), row), 0)
            else:
                self.assertRaises(NoSet, leaving, (3, ()), row)
                self.assertRaises(NoSet, need, (3, ()), 2, row)

    def test_what_is_refused_stays(self):
        thing = [2, 0, 2]
        self.assertRaises(NoSet, need, samples.ALIKE, 1, thing)
        self.assertEqual(thing, [2, 0, 2])


if __name__ == "__main__":
    unittest.main()
