import unittest
from itertools import permutations

from nofall.errors import NoSet
from nofall.families import best_family, bound, is_family

from tests import brute, samples
from tests.samples import asked_twice, same_kind

SMALL = [web for n, most in ((1, 0), (2, 4), (3, 5), (4, 4)) for web in brute.small_webs(n, most)]
FAMILIES = {n: brute.all_families(n) for n in range(1, 9)}


class IsFamilyTest(unittest.TestCase):
    def test_none_at_all(self):
        for n in range(1, 9):
            self.assertIs(is_family(n, []), True)

    def test_one_place_has_none_but_the_empty_one(self):
        for thing in ([[0]], [[]], [[1]], [[0], [0]], [0], (), None):
            self.assertIs(is_family(1, thing), False)

    def test_every_family_in_any_order(self):
        for n in range(1, 6):
            for family in FAMILIES[n]:
                for row in permutations(family):
                    self.assertIs(is_family(n, list(row)), True, row)
        for family in FAMILIES[8][::7]:
            self.assertIs(is_family(8, list(reversed(family))), True)

    def test_every_list_of_two_lists(self):
        numbers = [-1, 0, 1, 2, 3, False]
        rows = [[]] + [[x] for x in numbers] + [[x, y] for x in numbers for y in numbers] + [[0, 1, 2]]
        right = FAMILIES[3] + [family[::-1] for family in FAMILIES[3]]
        for one in rows:
            for other in rows:
                thing = [list(one), list(other)]
                self.assertIs(is_family(3, thing), any(same_kind(thing, family) for family in right), thing)

    def test_whatever_else(self):
        for n in (2, 3, 5, 8):
            for thing in samples.no_families(n):
                self.assertIs(is_family(n, thing), False, thing)

    def test_what_is_asked_of_stays(self):
        for thing in ([[1], [0]], [[2, 1], [0]], [[0], [0]]):
            asked_twice(self, is_family, 4, thing)


class BoundTest(unittest.TestCase):
    def test_plain(self):
        self.assertEqual(bound((2, ()), 1, [[0]]), 1)
        self.assertEqual(bound((2, ()), 2, [[0]]), 2)
        self.assertEqual(bound((2, ()), 2, [[0], [1]]), 3)
        self.assertEqual(bound(samples.line(3), 1, [[0]]), 1)
        self.assertEqual(bound(samples.line(3), 1, [[2], [0]]), 1)
        self.assertEqual(bound(samples.STAR, 1, [[0], [1], [3]]), 2)
        self.assertEqual(bound(samples.STAR, 2, [[0], [1], [3], [4]]), 4)
        self.assertEqual(bound(samples.ALIKE, 2, [[3], [0]]), 1)
        self.assertEqual(bound(samples.full(8), 2, [[v] for v in range(8)]), 0)

    def test_the_empty_one_has_none(self):
        for web in SMALL + samples.shaped_small_webs():
            for falls in (1, 2):
                self.assertTrue(same_kind(bound(web, falls, []), 0))

    def test_half_of_the_needs_made_whole(self):
        for web in SMALL[::3] + [samples.random_web(seed, 5, seed % 8) for seed in range(8)]:
            for family in FAMILIES[web[0]][::3]:
                for falls in (1, 2):
                    needs = [brute.need(web, falls, some) for some in family]
                    told = asked_twice(self, bound, web, falls, family)
                    self.assertTrue(same_kind(told, brute.half_up(sum(needs))), (web, falls, family))

    def test_no_family(self):
        for web in ((2, ()), (3, ((0, 1),)), samples.BOW, samples.full(8)):
            for thing in samples.no_families(web[0]):
                self.assertRaises(NoSet, bound, web, 1, thing)
                self.assertRaises(NoSet, bound, web, 2, thing)
        for thing in ([[0]], [[]], [[1]], None, (), 0):
            self.assertRaises(NoSet, bound, (1, ()), 1, thing)


class BestFamilyTest(unittest.TestCase):
    def look_at(self, web, falls):
        told = asked_twice(self, best_family, web, falls)
        self.assertIs(type(told), list)
        self.assertTrue(is_family(web[0], told), (web, falls, told))
        self.assertEqual(bound(web, falls, told), brute.greatest_bound(web, falls, FAMILIES[web[0]]), (web, falls))

    def test_one_place_alone(self):
        for falls in (1, 2):
            self.assertTrue(same_kind(best_family((1, ()), falls), []))

    def test_small_webs(self):
        for web in SMALL:
            for falls in (1, 2):
                self.look_at(web, falls)

    def test_greater_webs(self):
        for web in samples.shaped_small_webs() + samples.random_small_webs(40):
            for falls in (1, 2):
                self.look_at(web, falls)

    def test_a_set_of_several_places_needs_more_than_they_do(self):
        # Two rings of alike ties, apart: each place by itself needs less than its ring does.
        web = (4, ((0, 1),) * 3 + ((2, 3),) * 3)
        self.assertEqual(bound(web, 2, best_family(web, 2)), 3)
        self.assertEqual(bound(web, 2, [[v] for v in range(4)]), 0)


if __name__ == "__main__":
    unittest.main()
