import unittest

from nofall.errors import NoPlace, NoTie
from nofall.falls import cut_places, cut_ties, parts_without, side_of

from tests import brute, samples
from tests.samples import asked_twice, same_kind

SMALL = [web for n, most in ((1, 0), (2, 3), (3, 4), (4, 5), (5, 4)) for web in brute.small_webs(n, most)]
WEBS = SMALL + samples.shaped_webs() + samples.random_webs()


class TiesTest(unittest.TestCase):
    def test_plain(self):
        self.assertEqual(side_of((2, ((0, 1),)), 0), [0])
        self.assertIsNone(side_of((2, ((0, 1), (0, 1))), 0))
        self.assertIsNone(side_of((2, ((0, 1), (0, 1))), 1))
        self.assertEqual([side_of(samples.ALIKE, k) for k in range(5)], [None, None, [0, 1], None, None])
        self.assertEqual([side_of(samples.TWO_RINGS, k) for k in range(7)], [None] * 3 + [[0, 1, 2]] + [None] * 3)
        self.assertEqual(side_of(samples.STAR, 0), [0])
        self.assertEqual(side_of(samples.STAR, 3), [0, 1, 2, 3])
        self.assertEqual(side_of((4, ((0, 3), (1, 3), (2, 3))), 0), [0])

    def test_the_side_is_that_of_the_first_place(self):
        web = (5, ((0, 4), (1, 3), (2, 3), (2, 4)))
        self.assertEqual([side_of(web, k) for k in range(4)], [[0], [1], [0, 2, 4], [1, 2, 3]])

    def test_the_side_is_a_part_and_leaves_other_parts_out(self):
        self.assertEqual(side_of(samples.SCATTERED, 0), [0])
        self.assertEqual(side_of((6, ((0, 2), (1, 4), (3, 5))), 1), [1])

    def test_cut_ties_plain(self):
        self.assertEqual(cut_ties((1, ())), [])
        self.assertEqual(cut_ties((16, ())), [])
        self.assertEqual(cut_ties(samples.line(16)), list(range(15)))
        self.assertEqual(cut_ties(samples.ring(16)), [])
        self.assertEqual(cut_ties(samples.ALIKE), [2])
        self.assertEqual(cut_ties(samples.TWO_RINGS), [3])
        self.assertEqual(cut_ties(samples.BOW), [])
        self.assertEqual(cut_ties(samples.SCATTERED), [0])

    def test_against_marks(self):
        for web in WEBS:
            told = asked_twice(self, cut_ties, web)
            self.assertTrue(same_kind(told, brute.cut_ties(web)), web)
            for number in range(len(web[1])):
                side = asked_twice(self, side_of, web, number)
                self.assertTrue(same_kind(side, brute.side(web, number)), (web, number))

    def test_no_tie(self):
        for web in ((1, ()), (2, ()), (2, ((0, 1),)), samples.ALIKE, samples.full(8)):
            for thing in samples.no_numbers(len(web[1])):
                self.assertRaises(NoTie, side_of, web, thing)


class PlacesTest(unittest.TestCase):
    def test_one_place_alone(self):
        self.assertEqual(parts_without((1, ()), 0), [])
        self.assertEqual(cut_places((1, ())), [])

    def test_plain(self):
        self.assertEqual(parts_without((2, ((0, 1),)), 0), [[1]])
        self.assertEqual(parts_without((2, ((0, 1),)), 1), [[0]])
        self.assertEqual(parts_without(samples.STAR, 2), [[0], [1], [3], [4]])
        self.assertEqual(parts_without(samples.STAR, 0), [[1, 2, 3, 4]])
        self.assertEqual(parts_without(samples.BOW, 2), [[0, 1], [3, 4]])
        self.assertEqual(parts_without(samples.BOW, 4), [[0, 1, 2, 3]])
        self.assertEqual(parts_without(samples.SCATTERED, 6), [[0, 4], [1, 2], [3, 5, 8], [7]])
        self.assertEqual(parts_without(samples.SCATTERED, 0), [[1, 2], [3, 5, 8], [4], [6], [7]])
        self.assertEqual(parts_without(samples.SCATTERED, 8), [[0, 4], [1, 2], [3, 5], [6], [7]])

    def test_cut_places_plain(self):
        self.assertEqual(cut_places((16, ())), [])
        self.assertEqual(cut_places((2, ((0, 1),))), [])
        self.assertEqual(cut_places(samples.line(3)), [1])
        self.assertEqual(cut_places(samples.line(16)), list(range(1, 15)))
        self.assertEqual(cut_places(samples.ring(16)), [])
        self.assertEqual(cut_places(samples.BOW), [2])
        self.assertEqual(cut_places(samples.STAR), [2])
        self.assertEqual(cut_places(samples.TWO_RINGS), [2, 3])
        self.assertEqual(cut_places(samples.ALIKE), [1, 2])
        self.assertEqual(cut_places(samples.SCATTERED), [])
        self.assertEqual(cut_places((5, ((0, 3), (1, 3)))), [3])

    def test_against_marks(self):
        for web in WEBS:
            told = asked_twice(self, cut_places, web)
            self.assertTrue(same_kind(told, brute.cut_places(web)), web)
            for v in range(web[0]):
                left = asked_twice(self, parts_without, web, v)
                self.assertTrue(same_kind(left, brute.parts_without(web, v)), (web, v))

    def test_no_place(self):
        for web in ((1, ()), (2, ((0, 1),)), samples.ALIKE, samples.full(8), samples.line(16)):
            for thing in samples.no_numbers(web[0]):
                self.assertRaises(NoPlace, parts_without, web, thing)


if __name__ == "__main__":
    unittest.main()
