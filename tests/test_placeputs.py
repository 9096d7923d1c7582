import unittest
from itertools import permutations

from nofall.placelook import place_lets_by, place_stands
from nofall.placeneeds import place_bound
from nofall.placeputs import place_puts

from tests import brute, samples
from tests.samples import asked_twice, same_kind
from tests.test_placeneeds import no_papers

SMALL = [web for n, most in ((1, 0), (2, 3), (3, 5), (4, 6), (5, 3)) for web in brute.small_webs(n, most)]
GREATER = samples.shaped_small_webs() + samples.random_small_webs(120)
FAMILIES = {n: brute.all_families(n) for n in range(1, 9)}
STAR8 = (8, tuple((v, 7) for v in range(7)))


def is_paper(n, thing):
    if any(same_kind(thing, ("place", v)) for v in range(n)):
        return True
    if type(thing) is not tuple or len(thing) != 2 or thing[0] != "family" or type(thing[1]) is not list:
        return False
    return any(same_kind(sorted(thing[1]), family) for family in FAMILIES[n])


class PlaceStandsTest(unittest.TestCase):
    def test_plain(self):
        for web in ((1, ()), (2, ((0, 1),)), (2, ((0, 1),) * 40), samples.ring(3), samples.ring(8), samples.full(8)):
            self.assertIs(place_stands(web), True, web)
        for web in ((2, ()), (3, ()), (8, ()), samples.line(3), samples.BOW, samples.STAR, samples.ALIKE,
                    samples.TWO_RINGS, (4, ((0, 1), (2, 3))), (3, ((0, 1),)), (4, samples.ring(3)[1]),
                    (6, ((0, 1), (0, 2), (1, 2), (3, 4), (3, 5), (4, 5)))):
            self.assertIs(place_stands(web), False, web)

    def test_one_place_apart_from_what_stands(self):
        # The fall of the place alone leaves one part, yet the web does not hang together.
        self.assertIs(place_stands((2, ())), False)
        self.assertIs(place_stands((5, samples.full(4)[1])), False)

    def test_against_the_words(self):
        for web in SMALL + GREATER:
            self.assertIs(asked_twice(self, place_stands, web), brute.place_stands(web), web)

    def test_more_than_forty_ties(self):
        self.assertIs(place_stands((8, samples.full(8)[1] * 3)), True)
        self.assertIs(place_stands((3, ((0, 1),) * 150 + ((1, 2),) * 150)), False)


class PlacePutsTest(unittest.TestCase):
    def look_at(self, web):
        told = asked_twice(self, place_puts, web)
        self.assertIs(type(told), tuple)
        added, paper = told
        self.assertTrue(brute.is_added(web[0], added), (web, added))
        self.assertTrue(is_paper(web[0], paper), (web, paper))
        self.assertTrue(brute.place_stands(brute.web_with(web, added)), (web, added))
        self.assertEqual(len(added), brute.place_bound(web, paper), (web, told))
        return len(added)

    def test_one_place_alone(self):
        self.assertEqual(self.look_at((1, ())), 0)

    def test_plain(self):
        self.assertEqual(place_puts((2, ()))[0], [(0, 1)])
        self.assertEqual(place_puts(samples.line(3))[0], [(0, 2)])
        self.assertEqual(place_puts(samples.line(8))[0], [(0, 7)])
        self.assertEqual(place_puts((3, ((0, 1),)))[0], [(0, 2), (1, 2)])
        self.assertEqual(place_puts((3, ()))[0], [(0, 1), (0, 2), (1, 2)])

    def test_how_many(self):
        for web, count in (((2, ((0, 1),)), 0), ((8, ()), 8), (samples.BOW, 1), (samples.STAR, 3), (STAR8, 6),
                           (samples.TWO_RINGS, 1), (samples.ring(8), 0), (samples.full(8), 0), (samples.ALIKE, 1),
                           ((4, ((0, 1), (2, 3))), 2), ((4, ((0, 1),) * 20 + ((2, 3),) * 20), 2),
                           ((7, ((0, 1), (0, 2), (1, 3), (1, 4), (2, 5), (2, 6))), 2), ((4, samples.ring(3)[1]), 2)):
            self.assertEqual(self.look_at(web), count, web)

    def test_where_only_a_place_shows_it(self):
        # Each end of a star needs one tie more: the family shows four, what its middle leaves shows six.
        self.assertEqual(place_puts(STAR8)[1], ("place", 7))
        self.assertEqual(max(brute.place_bound(STAR8, ("family", family)) for family in FAMILIES[8][::3]), 4)

    def test_where_only_a_family_shows_it(self):
        self.assertEqual(place_puts((8, ()))[1][0], "family")
        self.assertEqual(max(brute.place_bound((8, ()), ("place", v)) for v in range(8)), 6)

    def test_small_webs(self):
        for web in SMALL:
            self.look_at(web)

    def test_greater_webs(self):
        for web in GREATER:
            self.look_at(web)

    def test_from_none_to_forty_ties(self):
        for n in range(2, 9):
            for count in list(range(0, 12)) + list(range(12, 41, 4)):
                self.look_at(samples.random_web(60 * n + count, n, count))

    def test_forests(self):
        for seed in range(60):
            web = samples.random_web(seed, 8, 10)
            tree = [tie for k, tie in enumerate(web[1]) if brute.spread(range(8), web[1][:k])[tie[0]] !=
                    brute.spread(range(8), web[1][:k])[tie[1]]]
            self.look_at((8, tuple(tree)))
            self.look_at((8, tuple(tree[seed % 3:])))

    def test_no_fewer_do(self):
        webs = [web for n, most in ((1, 0), (2, 2), (3, 4), (4, 5)) for web in brute.small_webs(n, most)]
        webs += [samples.random_web(seed, 5, seed % 6) for seed in range(18)]
        webs += [samples.random_web(seed, 6, 4 + seed % 3) for seed in range(6)] + [samples.STAR]
        for web in webs:
            count = len(place_puts(web)[0])
            self.assertFalse(brute.fewer_do(web, count, brute.place_stands), web)

    def test_none_where_the_web_stands_already(self):
        seen = 0
        for web in SMALL + GREATER:
            standing = brute.place_stands(web)
            seen += standing
            self.assertEqual(place_puts(web)[0] == [], standing, web)
        self.assertGreater(seen, 50)


class PlaceLetsByTest(unittest.TestCase):
    def yes(self, web, added, paper):
        self.assertIs(asked_twice(self, place_lets_by, web, added, paper), True, (web, added, paper))

    def no(self, web, added, paper):
        self.assertIs(place_lets_by(web, added, paper), False, (web, added, paper))

    def test_plain(self):
        web = samples.line(3)
        self.yes(web, [(0, 2)], ("place", 1))
        self.yes(web, [(0, 2)], ("family", [[2], [0]]))
        self.yes(web, [(0, 2)], ("family", [[2]]))
        self.no(web, [(0, 2)], ("place", 0))
        self.no(web, [(0, 2)], ("family", []))
        self.no(web, [(0, 2)], ("family", [[1]]))
        self.no(web, [(0, 1)], ("place", 1))
        self.no(web, [], ("place", 1))
        self.no(web, [], ("family", []))
        self.no(web, [(0, 2), (0, 2)], ("place", 1))

    def test_one_place_alone(self):
        self.yes((1, ()), [], ("family", []))
        self.yes((1, ()), [], ("place", 0))
        for added, paper in (([], ("place", 1)), ([], ("family", [[0]])), ((), ("place", 0)), ([(0, 0)], ("place", 0)),
                             ([(0, 1)], ("family", [])), ([], None), ([], [])):
            self.no((1, ()), added, paper)

    def test_a_web_that_stands_already(self):
        for paper in brute.place_papers(4, FAMILIES[4]):
            self.yes(samples.ring(4), [], paper)
            self.no(samples.ring(4), [(0, 2)], paper)

    def test_what_place_puts_tells(self):
        for web in SMALL[::2] + GREATER:
            added, paper = place_puts(web)
            self.yes(web, added, paper)
            self.no(web, added + [(0, 1)], paper)
            self.no(web, tuple(added), paper)
            self.no(web, added, list(paper))
            self.no(web, added, paper + (0,))
            self.no(web, added, paper[:1])
            for k in range(len(added)):
                self.no(web, added[:k] + added[k + 1:], paper)
                self.no(web, added[:k] + [added[k][::-1]] + added[k + 1:], paper)
                self.no(web, added[:k] + [list(added[k])] + added[k + 1:], paper)

    def test_every_list_with_every_paper(self):
        webs = [web for n, most in ((2, 2), (3, 3)) for web in brute.small_webs(n, most)]
        webs += [samples.random_web(seed, 4, 2 + seed % 4) for seed in range(12)] + [(4, ((0, 3), (1, 3), (2, 3)))]
        seen = {True: 0, False: 0}
        for web in webs:
            papers = brute.place_papers(web[0], FAMILIES[web[0]])
            bounds = [brute.place_bound(web, paper) for paper in papers]
            for count in range(max(bounds) + 2):
                for added in brute.lists_of_ties(web[0], count):
                    standing = brute.place_stands(brute.web_with(web, added))
                    for paper, bound in list(zip(papers, bounds))[::1 if standing else 9]:
                        right = standing and count <= bound
                        seen[right] += 1
                        self.assertIs(place_lets_by(web, added, paper), right, (web, added, paper))
        self.assertGreater(min(seen.values()), 300)

    def test_what_is_let_by_is_a_least_answer(self):
        for web in [(3, ()), samples.line(3), samples.line(4), (4, ((0, 3), (1, 3), (2, 3))), (4, ((0, 1), (2, 3)))]:
            least = len(place_puts(web)[0])
            for count in range(least + 3):
                for added in brute.lists_of_ties(web[0], count)[:150]:
                    if any(place_lets_by(web, added, paper) for paper in brute.place_papers(web[0], FAMILIES[web[0]])):
                        self.assertEqual(count, least)
                        self.assertTrue(brute.place_stands(brute.web_with(web, added)))

    def test_not_sorted(self):
        right = [(0, 1), (0, 2), (1, 2)]
        for row in permutations(right):
            self.assertIs(place_lets_by((3, ()), list(row), ("family", [[0], [1], [2]])), list(row) == right)

    def test_no_added_ties(self):
        for web in ((2, ()), (2, ((0, 1),)), samples.line(3), samples.ring(3), samples.STAR, samples.full(8)):
            paper = place_puts(web)[1]
            for thing in samples.no_added(web[0]) + [x for x in samples.long_things() if x != [(0, 1)] * 300]:
                self.no(web, thing, paper)
                self.no(web, thing, ("place", 0))

    def test_no_paper(self):
        for web in ((2, ()), (2, ((0, 1),)), samples.line(3), samples.ring(3), samples.STAR, samples.full(8)):
            added = place_puts(web)[0]
            for thing in no_papers(web[0]):
                self.no(web, added, thing)

    def test_whatever_two_things(self):
        for one in samples.no_added(3):
            for other in no_papers(3)[::3] + samples.things():
                self.no((3, ()), one, other)

    def test_three_hundred_ties(self):
        for web in ((2, ()), (8, ()), samples.full(8), STAR8):
            for paper in (("family", [[v] for v in range(web[0])]), ("place", web[0] - 1)):
                self.no(web, [(0, 1)] * 300, paper)
                self.no(web, sorted((samples.full(web[0])[1] * 300)[:300]), paper)

    def test_the_told_bound_is_that_of_the_paper(self):
        for web in GREATER:
            added, paper = place_puts(web)
            self.assertEqual(place_bound(web, paper), len(added))


if __name__ == "__main__":
    unittest.main()
