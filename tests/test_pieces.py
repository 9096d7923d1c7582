import unittest

from nofall.falls import cut_ties
from nofall.parts import parts
from nofall.pieces import ends, pieces, tree
from nofall.twoways import by_ties

from tests import brute, samples
from tests.samples import asked_twice, same_kind

SMALL = [web for n, most in ((1, 0), (2, 3), (3, 5), (4, 5), (5, 4)) for web in brute.small_webs(n, most)]
WEBS = SMALL + samples.shaped_webs() + samples.random_webs()
# Three rings hung on a fourth one, a place at the end of a line, and a ring apart from all with a place alone.
RINGS = (16, tuple(sorted([
    (0, 3), (3, 6), (0, 6), (6, 9), (9, 12), (12, 15), (9, 15), (3, 4), (4, 7), (4, 7), (0, 1), (1, 2), (5, 8), (8, 11),
    (5, 11), (13, 14), (10, 13), (10, 14), (10, 12)])))


class PiecesTest(unittest.TestCase):
    def test_one_place_alone(self):
        self.assertTrue(same_kind(pieces((1, ())), [[0]]))
        self.assertTrue(same_kind(tree((1, ())), ([[0]], [])))
        self.assertTrue(same_kind(ends((1, ())), ([], [0])))

    def test_pieces_plain(self):
        self.assertEqual(pieces((3, ())), [[0], [1], [2]])
        self.assertEqual(pieces((2, ((0, 1),))), [[0], [1]])
        self.assertEqual(pieces((2, ((0, 1), (0, 1)))), [[0, 1]])
        self.assertEqual(pieces(samples.line(16)), [[v] for v in range(16)])
        self.assertEqual(pieces(samples.ring(16)), [list(range(16))])
        self.assertEqual(pieces(samples.BOW), [[0, 1, 2, 3, 4]])
        self.assertEqual(pieces(samples.ALIKE), [[0, 1], [2, 3]])
        self.assertEqual(pieces(samples.TWO_RINGS), [[0, 1, 2], [3, 4, 5]])
        self.assertEqual(pieces(samples.SCATTERED), [[0], [1, 2], [3, 5, 8], [4], [6], [7]])

    def test_tree_plain(self):
        self.assertEqual(tree((2, ((0, 1),))), ([[0], [1]], [(0, 0, 1)]))
        self.assertEqual(tree(samples.ALIKE), ([[0, 1], [2, 3]], [(2, 0, 1)]))
        self.assertEqual(tree(samples.TWO_RINGS), ([[0, 1, 2], [3, 4, 5]], [(3, 0, 1)]))
        self.assertEqual(tree(samples.ring(5)), ([[0, 1, 2, 3, 4]], []))
        self.assertEqual(tree(samples.SCATTERED)[1], [(0, 0, 3)])

    def test_the_piece_of_the_first_place_stands_ahead(self):
        # Place 3 is of the first piece and ahead of no other: its tie with 1 has 1 first.
        web = (5, ((0, 3), (0, 3), (1, 3), (1, 4), (2, 4)))
        self.assertEqual(tree(web), ([[0, 3], [1], [2], [4]], [(2, 1, 0), (3, 1, 3), (4, 2, 3)]))
        self.assertEqual(ends(web), ([0, 2], []))

    def test_rings_joined_by_single_ties(self):
        sets = [[0, 3, 6], [1], [2], [4, 7], [5, 8, 11], [9, 12, 15], [10, 13, 14]]
        links = [(k, i, j) for k, (a, b) in enumerate(RINGS[1])
                 for i, one in enumerate(sets) for j, other in enumerate(sets) if a in one and b in other and i != j]
        self.assertEqual(pieces(RINGS), sets)
        self.assertEqual(tree(RINGS), (sets, links))
        self.assertEqual([link[1:] for link in links], [(0, 1), (1, 2), (0, 3), (0, 5), (6, 5)])
        self.assertEqual(ends(RINGS), ([2, 3, 6], [4]))

    def test_ends_plain(self):
        self.assertEqual(ends((3, ())), ([], [0, 1, 2]))
        self.assertEqual(ends((2, ((0, 1),))), ([0, 1], []))
        self.assertEqual(ends(samples.line(16)), ([0, 15], []))
        self.assertEqual(ends(samples.ring(16)), ([], [0]))
        self.assertEqual(ends(samples.STAR), ([0, 1, 3, 4], []))
        self.assertEqual(ends(samples.SCATTERED), ([0, 3], [1, 2, 4, 5]))

    def test_against_marks(self):
        for web in WEBS:
            self.assertTrue(same_kind(asked_twice(self, pieces, web), brute.pieces(web)), web)
            self.assertTrue(same_kind(asked_twice(self, tree, web), brute.tree(web)), web)
            self.assertTrue(same_kind(asked_twice(self, ends, web), brute.ends(web)), web)

    def test_of_one_piece_where_two_ways_are(self):
        for web in SMALL[::5] + samples.shaped_webs() + samples.random_webs()[::3]:
            home = {place: k for k, some in enumerate(pieces(web)) for place in some}
            for a in range(web[0]):
                for b in range(web[0]):
                    if a != b:
                        self.assertEqual(home[a] == home[b], by_ties(web, a, b)[0] == "ways")

    def test_as_many_trees_as_parts(self):
        for web in WEBS + [RINGS]:
            sets, links = tree(web)
            self.assertEqual([link[0] for link in links], cut_ties(web))
            marks = brute.spread(range(len(sets)), [link[1:] for link in links])
            self.assertEqual(len(set(marks.values())), len(parts(web)))
            self.assertEqual(len(sets) - len(links), len(parts(web)))

    def test_a_told_tree_is_the_askers_own(self):
        web = samples.TWO_RINGS
        told = tree(web)
        told[0][0].append(9)
        told[1].clear()
        self.assertEqual(pieces(web), [[0, 1, 2], [3, 4, 5]])
        self.assertEqual(tree(web), ([[0, 1, 2], [3, 4, 5]], [(3, 0, 1)]))
        self.assertEqual(ends(web), ([0, 1], []))


if __name__ == "__main__":
    unittest.main()
