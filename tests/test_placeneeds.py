import unittest

from nofall.errors import NoSet
from nofall.placeneeds import neighbours, place_bound, place_need

from tests import brute, samples
from tests.samples import asked_twice, same_kind

SMALL = [web for n, most in ((1, 0), (2, 3), (3, 4), (4, 3)) for web in brute.small_webs(n, most)]
WEBS = SMALL + samples.shaped_small_webs() + samples.random_small_webs(28)


class NeighboursTest(unittest.TestCase):
    def test_plain(self):
        self.assertEqual(neighbours((2, ()), [0]), [])
        self.assertEqual(neighbours((2, ((0, 1),) * 3), [0]), [1])
        self.assertEqual(neighbours(samples.BOW, [2]), [0, 1, 3, 4])
        self.assertEqual(neighbours(samples.BOW, [0]), [1, 2])
        self.assertEqual(neighbours(samples.BOW, [0, 1]), [2])
        self.assertEqual(neighbours(samples.BOW, [0, 4]), [1, 2, 3])
        self.assertEqual(neighbours(samples.line(8), [2, 3, 6]), [1, 4, 5, 7])
        self.assertEqual(neighbours((4, ((0, 1),)), [0, 1]), [])

    def test_each_set(self):
        for web in WEBS:
            for some in brute.proper_subsets(web[0]):
                told = asked_twice(self, neighbours, web, some)
                self.assertTrue(same_kind(told, brute.neighbours(web, some)), (web, some))


class PlaceNeedTest(unittest.TestCase):
    def test_no_neighbour(self):
        self.assertEqual(place_need((2, ()), [0]), 1)
        self.assertEqual(place_need((3, ()), [0]), 2)
        self.assertEqual(place_need((3, ()), [0, 1]), 1)
        self.assertEqual(place_need((5, ((0, 1), (0, 1))), [0, 1]), 2)

    def test_one_neighbour(self):
        self.assertEqual(place_need((2, ((0, 1),)), [0]), 0)
        self.assertEqual(place_need((3, ((0, 1), (0, 1))), [0]), 1)
        self.assertEqual(place_need(samples.BOW, [0, 1]), 1)
        self.assertEqual(place_need(samples.BOW, [0, 1, 3, 4]), 0)

    def test_two_neighbours_and_more(self):
        self.assertEqual(place_need(samples.ring(8), [0]), 0)
        self.assertEqual(place_need(samples.BOW, [0]), 0)
        self.assertEqual(place_need(samples.BOW, [2]), 0)
        self.assertEqual(place_need(samples.full(8), [0]), 0)

    def test_each_set(self):
        for web in WEBS:
            for some in brute.proper_subsets(web[0]):
                told = asked_twice(self, place_need, web, some)
                self.assertTrue(same_kind(told, brute.place_need(web, some)), (web, some))

    def test_no_set(self):
        for web in ((1, ()), (2, ()), (2, ((0, 1),)), (3, ()), samples.ALIKE, samples.BOW, samples.full(8)):
            for thing in samples.no_sets(web[0]):
                self.assertRaises(NoSet, neighbours, web, thing)
                self.assertRaises(NoSet, place_need, web, thing)


def no_papers(n):
    """What is no place paper of n places, two or more."""
    told = [(), ("family",), ("place",), ("family", [], []), ("place", 0, 0), ("place", 0, []), ["family", []],
            ["place", 0], ("Family", []), ("families", []), ("fam", []), ("places", 0), ("Place", 0), ("", []), ("", 0),
            ("ways", []), ("tie", 0), (0, "place"), ([], "family"), ("family", 0), ("place", []), ("place", [0]),
            ("family", ()), (b"place", 0), (b"family", []), (None, 0), (None, []), (True, 0), (0, 0), ([], []),
            (["place"], 0), (("place",), 0), (("family",), []), {"family": []}, {"place": 0}, ("place", n),
            ("place", -1), ("place", True), ("place", False), ("place", 10 ** 29), "family", "place", "pl", ["family"],
            [("family", [])], [("place", 0)], (("place", 0),), ("place", ("place", 0)), 0, 1, [], [[0]], [[0], [1]]]
    told += [("place", thing) for thing in samples.no_numbers(n)]
    told += [("family", thing) for thing in samples.no_families(n) + samples.long_things()]
    return told + [(thing, 0) for thing in samples.things()] + samples.things() + samples.long_things()


class PlaceBoundTest(unittest.TestCase):
    def test_one_place_alone(self):
        self.assertEqual(place_bound((1, ()), ("family", [])), 0)
        self.assertEqual(place_bound((1, ()), ("place", 0)), 0)
        for thing in (("family", [[0]]), ("family", [[]]), ("place", 1), ("place", -1), ("place", False)):
            self.assertRaises(NoSet, place_bound, (1, ()), thing)

    def test_of_a_place(self):
        self.assertEqual(place_bound((2, ()), ("place", 1)), 0)
        self.assertEqual(place_bound((3, ()), ("place", 1)), 1)
        self.assertEqual(place_bound((8, ()), ("place", 7)), 6)
        self.assertEqual(place_bound(samples.STAR, ("place", 2)), 3)
        self.assertEqual(place_bound(samples.STAR, ("place", 0)), 0)
        self.assertEqual(place_bound(samples.BOW, ("place", 2)), 1)

    def test_of_a_family(self):
        self.assertEqual(place_bound(samples.BOW, ("family", [])), 0)
        self.assertEqual(place_bound(samples.STAR, ("family", [[0], [1], [4]])), 2)
        self.assertEqual(place_bound(samples.STAR, ("family", [[4], [1], [0], [3]])), 2)
        self.assertEqual(place_bound((8, ()), ("family", [[v] for v in range(8)])), 8)
        self.assertEqual(place_bound((4, ((0, 1), (2, 3))), ("family", [[2, 3], [0, 1]])), 2)

    def test_every_paper(self):
        families = {n: brute.all_families(n) for n in range(1, 6)}
        for web in SMALL + [samples.random_web(seed, 5, seed % 8) for seed in range(8)]:
            for paper in brute.place_papers(web[0], families[web[0]][::3]):
                told = asked_twice(self, place_bound, web, paper)
                self.assertTrue(same_kind(told, brute.place_bound(web, paper)), (web, paper))
        for web in samples.shaped_small_webs() + samples.random_small_webs(28):
            for v in range(web[0]):
                told = asked_twice(self, place_bound, web, ("place", v))
                self.assertTrue(same_kind(told, brute.place_bound(web, ("place", v))), (web, v))

    def test_no_paper(self):
        for web in ((2, ()), (3, ((0, 1),)), samples.BOW, samples.full(8)):
            for thing in no_papers(web[0]):
                self.assertRaises(NoSet, place_bound, web, thing)


if __name__ == "__main__":
    unittest.main()
