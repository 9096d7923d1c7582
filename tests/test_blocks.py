import unittest
from itertools import combinations

from nofall.blocks import blocks, inners

from tests import brute, samples
from tests.samples import asked_twice, same_kind

SMALL = [web for n, most in ((1, 0), (2, 3), (3, 5), (4, 5), (5, 4)) for web in brute.small_webs(n, most)]
MIDDLE = SMALL + [samples.random_web(seed, 5 + seed % 4, 4 + seed % 7) for seed in range(60)]
GREAT = samples.shaped_webs() + samples.random_webs()
# Rings that share place 4, a line behind one of them, a ring of two ties at its end, a part apart and a place alone.
MIXED = (16, tuple(sorted([(0, 4), (0, 8), (4, 8), (4, 12), (1, 12), (1, 4), (8, 9), (9, 13), (2, 13), (2, 13), (3, 7),
                           (7, 11), (11, 15), (3, 15), (3, 11), (5, 6), (6, 10)])))


class BlocksTest(unittest.TestCase):
    def test_without_ties(self):
        for n in range(1, 17):
            self.assertTrue(same_kind(blocks((n, ())), []))
            self.assertTrue(same_kind(inners((n, ())), []))

    def test_lines_and_trees(self):
        self.assertEqual(blocks((2, ((0, 1),))), [[0, 1]])
        self.assertEqual(blocks(samples.line(16)), [[v, v + 1] for v in range(15)])
        self.assertEqual(blocks(samples.STAR), [[0, 2], [1, 2], [2, 3], [2, 4]])
        self.assertEqual(blocks((5, ((0, 3), (1, 3), (1, 4)))), [[0, 3], [1, 3], [1, 4]])

    def test_rings(self):
        self.assertEqual(blocks(samples.ring(3)), [[0, 1, 2]])
        self.assertEqual(blocks(samples.ring(16)), [list(range(16))])
        self.assertEqual(blocks(samples.full(8)), [list(range(8))])
        self.assertEqual(blocks(samples.BOW), [[0, 1, 2], [2, 3, 4]])
        self.assertEqual(blocks(samples.TWO_RINGS), [[0, 1, 2], [2, 3], [3, 4, 5]])
        self.assertEqual(blocks((4, ((0, 1), (0, 2), (1, 2), (2, 3)))), [[0, 1, 2], [2, 3]])

    def test_alike_ties_are_a_ring(self):
        self.assertEqual(blocks((2, ((0, 1), (0, 1)))), [[0, 1]])
        self.assertEqual(blocks((2, ((0, 1),) * 40)), [[0, 1]])
        self.assertEqual(blocks(samples.ALIKE), [[0, 1], [1, 2], [2, 3]])
        self.assertEqual(blocks((3, ((0, 1), (0, 1), (0, 2), (0, 2)))), [[0, 1], [0, 2]])

    def test_parts_and_places_without_ties(self):
        self.assertEqual(blocks(samples.SCATTERED), [[0, 4], [1, 2], [3, 5, 8]])
        self.assertEqual(blocks(MIXED), [[0, 4, 8], [1, 4, 12], [2, 13], [3, 7, 11, 15], [5, 6], [6, 10], [8, 9],
                                         [9, 13]])

    def test_against_rings(self):
        for web in MIDDLE:
            groups = brute.blocks_by_rings(web)
            told = asked_twice(self, blocks, web)
            self.assertTrue(same_kind(told, sorted(brute.places_of_ties(web, group) for group in groups)), web)

    def test_two_ties_are_of_one_block_just_where_some_ring_has_both(self):
        for web in MIDDLE[::7]:
            told, rings = blocks(web), brute.rings(web)
            for one, other in combinations(range(len(web[1])), 2):
                places = set(web[1][one] + web[1][other])
                self.assertEqual(any(places <= set(block) for block in told),
                                 any(one in ring and other in ring for ring in rings), (web, one, other))

    def test_against_a_walk_into_the_depth(self):
        for web in MIDDLE + GREAT + [MIXED]:
            told = asked_twice(self, blocks, web)
            self.assertTrue(same_kind(told, brute.blocks_by_depths(web)), web)

    def test_two_blocks_share_one_place_at_most(self):
        for web in GREAT:
            for one, other in combinations(blocks(web), 2):
                self.assertLessEqual(len(set(one) & set(other)), 1)


class InnersTest(unittest.TestCase):
    def test_no_end_block(self):
        for web in [(2, ((0, 1),)), (2, ((0, 1), (0, 1))), samples.ring(3), samples.ring(16), samples.full(8)]:
            self.assertEqual(inners(web), [])
        self.assertEqual(inners(samples.SCATTERED), [])

    def test_lines_and_trees(self):
        self.assertEqual(inners(samples.line(3)), [[0], [2]])
        self.assertEqual(inners(samples.line(16)), [[0], [15]])
        self.assertEqual(inners(samples.STAR), [[0], [1], [3], [4]])

    def test_rings(self):
        self.assertEqual(inners(samples.BOW), [[0, 1], [3, 4]])
        self.assertEqual(inners(samples.TWO_RINGS), [[0, 1], [4, 5]])
        self.assertEqual(inners((4, ((0, 1), (0, 2), (1, 2), (2, 3)))), [[0, 1], [3]])
        self.assertEqual(inners(samples.ALIKE), [[0], [3]])

    def test_sorted_as_they_are_told(self):
        # The blocks are [0, 3], [0, 4] and [1, 2, 3]: without 0 and 3 another one stands first.
        web = (5, ((0, 3), (0, 4), (1, 2), (1, 3), (2, 3)))
        self.assertEqual(blocks(web), [[0, 3], [0, 4], [1, 2, 3]])
        self.assertEqual(inners(web), [[1, 2], [4]])
        self.assertEqual(inners((5, ((0, 1), (0, 4), (2, 3), (2, 4), (3, 4)))), [[1], [2, 3]])
        self.assertEqual(inners((4, ((0, 3), (1, 2), (1, 3), (2, 3)))), [[0], [1, 2]])
        self.assertEqual(inners((6, ((0, 1), (0, 5), (2, 3), (2, 5), (3, 5), (4, 5)))), [[1], [2, 3], [4]])
        self.assertEqual(inners((4, ((0, 2), (0, 3), (1, 2)))), [[1], [3]])

    def test_several_parts(self):
        self.assertEqual(inners(MIXED), [[1, 12], [2], [5], [10]])

    def test_against_the_words(self):
        for web in MIDDLE + GREAT + [MIXED]:
            told = asked_twice(self, inners, web)
            self.assertTrue(same_kind(told, brute.inners(web, brute.blocks_by_depths(web))), web)

    def test_a_told_block_is_the_askers_own(self):
        told = blocks(samples.BOW)
        told[0].append(9)
        told.pop()
        inners(samples.BOW)[0].clear()
        self.assertEqual(blocks(samples.BOW), [[0, 1, 2], [2, 3, 4]])
        self.assertEqual(inners(samples.BOW), [[0, 1], [3, 4]])


if __name__ == "__main__":
    unittest.main()
