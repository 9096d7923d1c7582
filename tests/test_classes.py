import unittest

from nofall.classes import classes, firsts_and_lasts
from nofall.parts import one_way

from tests import brute, samples
from tests.samples import asked_twice, same_kind

SMALL = [one for n, most in ((1, 0), (2, 4), (3, 4), (4, 3)) for one in brute.small_one_ways(n, most)]
GREAT = samples.random_one_ways() + [samples.random_one_way(seed, 2 + seed % 15, seed % 41) for seed in range(300, 390)]
ROUND = (16, tuple(sorted((v, (v + 1) % 16) for v in range(16))))
BACK = (16, tuple((v, v - 1) for v in range(1, 16)))


class ClassesTest(unittest.TestCase):
    def test_one_place_alone(self):
        self.assertTrue(same_kind(classes((1, ())), [[0]]))
        self.assertTrue(same_kind(firsts_and_lasts((1, ())), ([], [], [0])))

    def test_without_ties(self):
        for n in range(1, 17):
            self.assertEqual(classes((n, ())), [[v] for v in range(n)])
            self.assertEqual(firsts_and_lasts((n, ())), ([], [], list(range(n))))

    def test_rings(self):
        self.assertEqual(classes(ROUND), [list(range(16))])
        self.assertEqual(firsts_and_lasts(ROUND), ([], [], [0]))
        self.assertEqual(classes((3, ((0, 2), (1, 0), (2, 1)))), [[0, 1, 2]])
        self.assertEqual(classes((3, ((0, 1), (0, 2), (1, 2)))), [[0], [1], [2]])

    def test_lines_that_lead_one_way(self):
        self.assertEqual(classes(samples.line(16)), [[v] for v in range(16)])
        self.assertEqual(firsts_and_lasts(samples.line(16)), ([0], [15], []))
        self.assertEqual(classes(BACK), [[v] for v in range(16)])
        self.assertEqual(firsts_and_lasts(BACK), ([15], [0], []))
        self.assertEqual(firsts_and_lasts((2, ((1, 0),))), ([1], [0], []))

    def test_ties_both_ways_and_alike(self):
        self.assertEqual(classes((2, ((0, 1), (1, 0)))), [[0, 1]])
        self.assertEqual(firsts_and_lasts((2, ((0, 1), (1, 0)))), ([], [], [0]))
        self.assertEqual(classes((2, ((0, 1),) * 40)), [[0], [1]])
        self.assertEqual(firsts_and_lasts((2, ((0, 1),) * 40)), ([0], [1], []))

    def test_several_parts(self):
        one = (9, ((0, 5), (1, 3), (3, 1), (3, 4), (5, 0), (6, 4), (6, 8), (8, 6)))
        self.assertEqual(classes(one), [[0, 5], [1, 3], [2], [4], [6, 8], [7]])
        self.assertEqual(firsts_and_lasts(one), ([1, 4], [3], [0, 2, 5]))

    def test_a_class_between_is_in_none_of_the_lists(self):
        one = (6, ((0, 4), (1, 2), (2, 1), (2, 3), (4, 1)))
        self.assertEqual(classes(one), [[0], [1, 2], [3], [4], [5]])
        self.assertEqual(firsts_and_lasts(one), ([0], [2], [4]))

    def test_against_steps_through_each_place(self):
        for one in SMALL + GREAT:
            self.assertTrue(same_kind(asked_twice(self, classes, one), brute.classes(one)), one)
            self.assertTrue(same_kind(asked_twice(self, firsts_and_lasts, one), brute.firsts_and_lasts(one)), one)

    def test_of_one_class_where_ways_lead_there_and_back(self):
        for one in GREAT[::7]:
            home = {place: k for k, some in enumerate(classes(one)) for place in some}
            for a in range(one[0]):
                for b in range(one[0]):
                    both = one_way(one, a, b) is not None and one_way(one, b, a) is not None
                    self.assertEqual(home[a] == home[b], both)

    def test_a_told_class_is_the_askers_own(self):
        told = classes(ROUND)
        told[0].pop()
        told.append([9])
        firsts_and_lasts(ROUND)[2].clear()
        self.assertEqual(classes(ROUND), [list(range(16))])
        self.assertEqual(firsts_and_lasts(ROUND), ([], [], [0]))


if __name__ == "__main__":
    unittest.main()
