import unittest
from itertools import permutations

from nofall.onelook import one_lets_by, one_stands
from nofall.oneputs import one_puts

from tests import brute, samples
from tests.samples import asked_twice

SMALL = [one for n, most in ((1, 0), (2, 5), (3, 4)) for one in brute.small_one_ways(n, most)]
GREATER = samples.shaped_small_one_ways() + samples.random_small_one_ways(84)
FAMILIES = {n: brute.all_families(n) for n in range(1, 5)}
LINE = samples.line(3)


class OneStandsTest(unittest.TestCase):
    def verdicts(self, one, none, single):
        self.assertIs(one_stands(one, 0), none, one)
        self.assertIs(one_stands(one, 1), single, one)

    def test_one_place_alone(self):
        self.verdicts((1, ()), True, True)

    def test_two_places(self):
        for there in range(5):
            for back in range(5):
                fewer = min(there, back)
                self.verdicts((2, ((0, 1),) * there + ((1, 0),) * back), fewer > 0, fewer > 1)

    def test_rings(self):
        for n in range(3, 9):
            once = samples.round_web(n)
            self.verdicts(once, True, False)
            twice = (n, tuple(sorted(once[1] * 2)))
            self.verdicts(twice, True, True)
            for number in range(2 * n):
                self.verdicts((n, twice[1][:number] + twice[1][number + 1:]), True, False)
            for number in range(n):
                self.verdicts((n, once[1][:number] + once[1][number + 1:]), False, False)

    def test_rings_both_ways(self):
        for n in range(3, 9):
            ties = samples.round_web(n)[1]
            self.verdicts((n, tuple(sorted(ties + tuple((b, a) for a, b in ties)))), True, True)

    def test_several_parts(self):
        self.verdicts((2, ()), False, False)
        self.verdicts((8, ()), False, False)
        self.verdicts((6, ((0, 1), (1, 2), (2, 0), (3, 4), (4, 5), (5, 3))), False, False)
        self.verdicts((3, ((0, 1),) * 20 + ((1, 0),) * 20), False, False)

    def test_ways_that_lead_there_and_never_back(self):
        self.verdicts(samples.full(8), False, False)
        self.verdicts((4, ((0, 1), (1, 0), (1, 2), (1, 2), (2, 3), (3, 2))), False, False)

    def test_more_than_forty_ties(self):
        self.verdicts((2, ((0, 1),) * 170 + ((1, 0),) * 170), True, True)
        self.verdicts((2, ((0, 1),) * 339 + ((1, 0),)), True, False)
        self.verdicts((2, ((0, 1),) * 340), False, False)

    def test_against_each_fall(self):
        for one in SMALL + GREATER:
            for falls in (0, 1):
                told = asked_twice(self, one_stands, one, falls)
                self.assertIs(told, brute.one_stands(one, falls), (one, falls))


class OneLetsByTest(unittest.TestCase):
    def yes(self, one, falls, added, side, family):
        told = asked_twice(self, one_lets_by, one, falls, added, side, family)
        self.assertIs(told, True, (one, falls, added, side, family))

    def no(self, one, falls, added, side, family):
        self.assertIs(one_lets_by(one, falls, added, side, family), False, (one, falls, added, side, family))

    def test_plain(self):
        self.yes(LINE, 0, [(2, 0)], "in", [[0]])
        self.yes(LINE, 0, [(2, 0)], "in", [[0, 1], [2]])
        self.yes(LINE, 0, [(2, 0)], "out", [[2]])
        self.no(LINE, 0, [(2, 0)], "out", [[0]])
        self.no(LINE, 0, [(2, 0)], "in", [[2]])
        self.no(LINE, 0, [(2, 0)], "in", [])
        self.no(LINE, 0, [(0, 2)], "in", [[0]])
        self.no(LINE, 0, [], "in", [[0]])
        self.no(LINE, 0, [], "in", [])
        self.no(LINE, 0, [(2, 0), (2, 0)], "in", [[0]])
        self.no(LINE, 1, [(2, 0)], "in", [[0]])
        self.yes((2, ()), 0, [(0, 1), (1, 0)], "in", [[0], [1]])
        self.no((2, ()), 0, [(1, 0), (0, 1)], "in", [[0], [1]])
        self.no((2, ()), 0, [(0, 1), (0, 1)], "in", [[0], [1]])

    def test_one_place_alone(self):
        for falls in (0, 1):
            self.yes((1, ()), falls, [], "in", [])
            self.yes((1, ()), falls, [], "out", [])
            for added, family in (([], [[0]]), ([], [[]]), ([], ()), ((), []), ([(0, 0)], []), ([(0, 1)], [])):
                self.no((1, ()), falls, added, "in", family)

    def test_a_web_that_stands_already(self):
        one = (3, ((0, 1), (0, 2), (1, 0), (1, 2), (2, 0), (2, 1)))
        for family in FAMILIES[3]:
            for side in ("in", "out"):
                self.yes(one, 1, [], side, family)
                self.no(one, 1, [(0, 1)], side, family)

    def test_what_one_puts_tells(self):
        for one in SMALL[::2] + GREATER:
            for falls in (0, 1):
                added, side, family = one_puts(one, falls)
                self.yes(one, falls, added, side, family)
                self.yes(one, falls, added, side, family[::-1])
                self.no(one, falls, added + [(0, 1)], side, family)
                self.no(one, falls, [(0, 1)] + added, side, family)
                self.no(one, falls, tuple(added), side, family)
                self.no(one, falls, added, side, tuple(family))
                self.no(one, falls, added, side.upper(), family)
                for k in range(len(added)):
                    self.no(one, falls, added[:k] + added[k + 1:], side, family)
                    self.no(one, falls, added[:k] + [list(added[k])] + added[k + 1:], side, family)
                    self.no(one, falls, added[:k] + [added[k] + (0,)] + added[k + 1:], side, family)

    def test_every_list_with_every_side_and_family(self):
        ones = [one for n, most in ((2, 3), (3, 1)) for one in brute.small_one_ways(n, most)]
        ones += [samples.random_one_way(seed, 3, 2 + seed % 4) for seed in range(14)]
        seen = {True: 0, False: 0}
        for one in ones:
            for falls in (0, 1):
                least = len(one_puts(one, falls)[0])
                for count in range(min(least + 2, 5)):
                    for added in brute.lists_of_leads(one[0], count):
                        self.every_paper(one, falls, added, least, seen)
        self.assertGreater(min(seen.values()), 300)

    def every_paper(self, one, falls, added, least, seen):
        standing = brute.one_stands(brute.web_with(one, added), falls)
        for side in ("in", "out"):
            for family in FAMILIES[one[0]][::1 if standing else 5]:
                right = standing and len(added) <= brute.one_bound(one, falls, side, family)
                seen[right] += 1
                told = one_lets_by(one, falls, added, side, family)
                self.assertIs(told, right, (one, falls, added, side, family))
                self.assertFalse(told and len(added) != least)

    def test_not_sorted(self):
        right = [(0, 1), (1, 2), (2, 0)]
        for row in permutations(right):
            self.assertIs(one_lets_by((3, ()), 0, list(row), "in", [[0], [1], [2]]), list(row) == right)

    def test_every_list_of_short_tuples(self):
        numbers = [-1, 0, 1, 2, True]
        ties = [(x,) for x in numbers] + [(x, y) for x in numbers for y in numbers] + [(0, 1, 1), (), [0, 1]]
        for one in ((2, ()), (2, ((0, 1),)), (2, ((0, 1), (1, 0)))):
            for row in [[]] + [[x] for x in ties] + [[x, y] for x in ties for y in ties]:
                right = brute.are_leads(2, row) and brute.one_stands(brute.web_with(one, row), 0)
                for side in ("in", "out"):
                    self.assertIs(one_lets_by(one, 0, row, side, [[0], [1]]), right and len(row) == 2 - len(one[1]), row)

    def test_no_added_ties(self):
        for one in ((2, ((0, 1),)), (2, ((0, 1), (1, 0))), LINE, samples.round_web(3), (8, ()), samples.full(8)):
            for falls in (0, 1):
                added, side, family = one_puts(one, falls)
                for thing in samples.no_leads(one[0]) + [x for x in samples.long_things() if x != [(0, 1)] * 300]:
                    self.no(one, falls, thing, side, family)
                    self.no(one, falls, thing, "in", [[0], [1]])

    def test_no_side(self):
        for one in ((1, ()), (2, ()), LINE, samples.round_web(3), samples.full(8)):
            for falls in (0, 1):
                added, side, family = one_puts(one, falls)
                for thing in samples.no_sides():
                    self.no(one, falls, added, thing, family)

    def test_no_family(self):
        for one in ((2, ()), (2, ((0, 1),)), LINE, samples.round_web(3), samples.full(8)):
            for falls in (0, 1):
                added, side, family = one_puts(one, falls)
                for thing in samples.no_families(one[0]) + samples.long_things():
                    self.no(one, falls, added, side, thing)

    def test_whatever_three_things(self):
        for added in samples.no_leads(3) + samples.things():
            for side in ["in", "out"] + samples.no_sides()[::5]:
                for family in samples.no_families(3)[::3]:
                    self.no((3, ()), 0, added, side, family)

    def test_three_hundred_ties(self):
        for one in ((2, ()), (8, ()), samples.full(8), LINE):
            everywhere = sorted(((a, b) for a in range(one[0]) for b in range(one[0]) if a != b))
            for falls in (0, 1):
                for side in ("in", "out"):
                    self.no(one, falls, [(0, 1)] * 300, side, [[0], [1]])
                    self.no(one, falls, sorted((everywhere * 150)[:300]), side, [[v] for v in range(one[0])])

    def test_forty_ties_and_more(self):
        one = (8, ((0, 7),) * 20 + ((4, 3),) * 20)
        for falls in (0, 1):
            self.yes(one, falls, *one_puts(one, falls))


if __name__ == "__main__":
    unittest.main()
