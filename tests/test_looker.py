import unittest
from itertools import permutations

from nofall.families import is_family
from nofall.looker import lets_by
from nofall.puts import puts

from tests import brute, samples
from tests.samples import asked_twice

FAMILIES = {n: brute.all_families(n) for n in range(1, 7)}
LINE = samples.line(3)


class LetsByTest(unittest.TestCase):
    def yes(self, web, falls, added, family):
        self.assertIs(asked_twice(self, lets_by, web, falls, added, family), True, (web, falls, added, family))

    def no(self, web, falls, added, family):
        self.assertIs(lets_by(web, falls, added, family), False, (web, falls, added, family))

    def test_plain(self):
        self.yes(LINE, 1, [(0, 2)], [[0], [2]])
        self.yes(LINE, 1, [(0, 2)], [[2], [0]])
        self.yes(LINE, 1, [(0, 2)], [[0]])
        self.yes(LINE, 1, [(0, 2)], [[0, 1]])
        self.yes((2, ()), 1, [(0, 1), (0, 1)], [[0], [1]])
        self.yes((2, ()), 2, [(0, 1), (0, 1), (0, 1)], [[1], [0]])
        self.no(LINE, 1, [(0, 2)], [])
        self.no(LINE, 1, [(0, 2)], [[1]])
        self.no(LINE, 1, [(0, 1)], [[0], [2]])
        self.no(LINE, 1, [], [[0], [2]])
        self.no(LINE, 1, [], [])
        self.no(LINE, 1, [(0, 2), (0, 2)], [[0], [2]])
        self.no(LINE, 2, [(0, 2)], [[0], [2]])

    def test_one_place_alone(self):
        for falls in (1, 2):
            self.yes((1, ()), falls, [], [])
            for added, family in (([], [[0]]), ([], [[]]), ([], ()), ((), []), ([(0, 0)], []), ([(0, 1)], [])):
                self.no((1, ()), falls, added, family)

    def test_a_web_that_stands_already(self):
        for family in FAMILIES[4]:
            self.yes(samples.full(4), 2, [], family)
            self.no(samples.full(4), 2, [(0, 1)], family)

    def test_what_puts_tells(self):
        small = [web for n, most in ((1, 0), (2, 4), (3, 4), (4, 4)) for web in brute.small_webs(n, most)]
        for web in small + samples.shaped_small_webs() + samples.random_small_webs(60):
            for falls in (1, 2):
                added, family = puts(web, falls)
                self.yes(web, falls, added, family)
                self.yes(web, falls, added, family[::-1])
                self.no(web, falls, added + [(0, 1)], family)
                self.no(web, falls, tuple(added), family)
                self.no(web, falls, added, tuple(family))
                for k in range(len(added)):
                    self.no(web, falls, added[:k] + added[k + 1:], family)
                    self.no(web, falls, added[:k] + [added[k][::-1]] + added[k + 1:], family)
                    self.no(web, falls, added[:k] + [list(added[k])] + added[k + 1:], family)

    def test_every_list_with_every_family(self):
        webs = [web for n, most in ((2, 3), (3, 3)) for web in brute.small_webs(n, most)]
        webs += [samples.random_web(seed, 4, 2 + seed % 4) for seed in range(10)]
        seen = {True: 0, False: 0}
        for web in webs:
            for falls in (1, 2):
                most = len(puts(web, falls)[0])
                for count in range(most + 2):
                    for added in brute.lists_of_ties(web[0], count)[::1 if web[0] < 4 else 2]:
                        standing = brute.stands(brute.web_with(web, added), falls)
                        for family in FAMILIES[web[0]][::1 if standing else 9]:
                            bound = brute.half_up(sum(brute.need(web, falls, some) for some in family))
                            right = standing and count <= bound
                            seen[right] += 1
                            self.assertIs(lets_by(web, falls, added, family), right, (web, falls, added, family))
        self.assertGreater(min(seen.values()), 300)

    def test_what_is_let_by_is_a_least_answer(self):
        for web in [(3, ()), LINE, samples.ALIKE, (4, ((0, 1), (2, 3))), (2, ())]:
            for falls in (1, 2):
                least = len(puts(web, falls)[0])
                for count in range(least + 3):
                    for added in brute.lists_of_ties(web[0], count)[:200]:
                        if any(lets_by(web, falls, added, family) for family in FAMILIES[web[0]]):
                            self.assertEqual(count, least)
                            self.assertTrue(brute.stands(brute.web_with(web, added), falls))

    def test_not_sorted(self):
        right = [(0, 1), (0, 2), (1, 2)]
        for row in permutations(right):
            self.assertIs(lets_by((3, ()), 1, list(row), [[0], [1], [2]]), list(row) == right)

    def test_every_list_of_short_tuples(self):
        numbers = [-1, 0, 1, 2, True]
        ties = [(x,) for x in numbers] + [(x, y) for x in numbers for y in numbers] + [(0, 1, 1), (), [0, 1]]
        for web in ((2, ()), (2, ((0, 1),)), (2, ((0, 1), (0, 1)))):
            for row in [[]] + [[x] for x in ties] + [[x, y] for x in ties for y in ties]:
                right = brute.is_added(2, row) and len(row) == 2 - len(web[1])
                self.assertIs(lets_by(web, 1, row, [[0], [1]]), right, row)

    def test_no_added_ties(self):
        for web in ((2, ((0, 1),)), (2, ((0, 1), (0, 1))), LINE, samples.ring(3), samples.STAR, samples.full(8)):
            family = puts(web, 1)[1]
            for thing in samples.no_added(web[0]) + [x for x in samples.long_things() if x != [(0, 1)] * 300]:
                for falls in (1, 2):
                    self.no(web, falls, thing, family)
                    self.no(web, falls, thing, [[0], [1]])

    def test_no_family(self):
        for web in ((2, ()), (2, ((0, 1),)), LINE, samples.ring(3), samples.STAR, samples.full(8)):
            for falls in (1, 2):
                added = puts(web, falls)[0]
                for thing in samples.no_families(web[0]) + samples.long_things():
                    self.assertIs(is_family(web[0], thing), False)
                    self.no(web, falls, added, thing)

    def test_whatever_two_things(self):
        for one in samples.no_added(3) + samples.things():
            for other in samples.no_families(3):
                self.no((3, ()), 1, one, other)

    def test_three_hundred_ties(self):
        for web in ((2, ()), (8, ()), samples.full(8), LINE):
            for falls in (1, 2):
                self.no(web, falls, [(0, 1)] * 300, [[0], [1]])
                ties = sorted((samples.full(web[0])[1] * 300)[:300])
                self.no(web, falls, ties, [[v] for v in range(web[0])])

    def test_forty_ties_and_more(self):
        web = (8, ((0, 7),) * 20 + ((3, 4),) * 20)
        for falls in (1, 2):
            self.yes(web, falls, *puts(web, falls))


if __name__ == "__main__":
    unittest.main()
