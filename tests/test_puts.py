import unittest

from nofall.families import bound, is_family
from nofall.puts import puts
from nofall.stands import stands

from tests import brute, samples
from tests.samples import asked_twice, same_kind

SMALL = [web for n, most in ((1, 0), (2, 4), (3, 6), (4, 6), (5, 3)) for web in brute.small_webs(n, most)]
GREATER = samples.shaped_small_webs() + samples.random_small_webs(120)


def fewer_do(web, falls, count):
    return brute.fewer_do(web, count, lambda made: brute.stands(made, falls))


class PutsTest(unittest.TestCase):
    def look_at(self, web, falls):
        told = asked_twice(self, puts, web, falls)
        self.assertIs(type(told), tuple)
        added, family = told
        self.assertTrue(brute.is_added(web[0], added), (web, falls, added))
        self.assertTrue(is_family(web[0], family), (web, falls, family))
        self.assertTrue(stands(brute.web_with(web, added), falls), (web, falls, added))
        self.assertEqual(len(added), bound(web, falls, family), (web, falls, told))
        return len(added)

    def test_one_place_alone(self):
        for falls in (1, 2):
            self.assertTrue(same_kind(puts((1, ()), falls), ([], [])))

    def test_plain(self):
        self.assertEqual(puts((2, ()), 1)[0], [(0, 1), (0, 1)])
        self.assertEqual(puts((2, ()), 2)[0], [(0, 1), (0, 1), (0, 1)])
        self.assertEqual(puts((2, ((0, 1),)), 1)[0], [(0, 1)])
        self.assertEqual(puts((2, ((0, 1),)), 2)[0], [(0, 1), (0, 1)])
        self.assertEqual(puts(samples.line(8), 1)[0], [(0, 7)])
        self.assertIn(puts(samples.ALIKE, 1)[0], [[(a, b)] for a in (0, 1) for b in (2, 3)])

    def test_how_many(self):
        for web, falls, count in (((3, ()), 1, 3), ((3, ()), 2, 5), ((8, ()), 1, 8), ((8, ()), 2, 12),
                                  (samples.line(8), 2, 5), (samples.ring(8), 2, 4), (samples.STAR, 1, 2),
                                  (samples.STAR, 2, 4), (samples.BOW, 2, 2), (samples.TWO_RINGS, 1, 1),
                                  ((4, ((0, 1),) * 20 + ((2, 3),) * 20), 1, 2),
                                  ((4, ((0, 1),) * 20 + ((2, 3),) * 20), 2, 3),
                                  ((8, tuple((v, 7) for v in range(7))), 1, 4)):
            self.assertEqual(self.look_at(web, falls), count, (web, falls))

    def test_small_webs(self):
        for web in SMALL:
            for falls in (1, 2):
                self.look_at(web, falls)

    def test_greater_webs(self):
        for web in GREATER:
            for falls in (1, 2):
                self.look_at(web, falls)

    def test_from_none_to_forty_ties(self):
        for n in range(2, 9):
            for count in range(0, 41, 3):
                web = samples.random_web(50 * n + count, n, count)
                for falls in (1, 2):
                    self.look_at(web, falls)

    def test_forty_ties_and_more_with_those_put_in(self):
        web = (8, ((0, 7),) * 20 + ((3, 4),) * 20)
        for falls in (1, 2):
            count = self.look_at(web, falls)
            self.assertGreater(len(brute.web_with(web, puts(web, falls)[0])[1]), 40)
            self.assertEqual(count, (6, 9)[falls - 1])

    def test_the_web_with_them_stands_each_fall_gone_through(self):
        for web in SMALL[::5] + GREATER[::6]:
            for falls in (1, 2):
                self.assertTrue(brute.stands(brute.web_with(web, puts(web, falls)[0]), falls), (web, falls))

    def test_no_fewer_do(self):
        webs = [web for n, most in ((1, 0), (2, 3), (3, 4), (4, 2)) for web in brute.small_webs(n, most)]
        for web in webs + [samples.random_web(seed, 4, 3 + seed % 3) for seed in range(12)]:
            for falls in (1, 2):
                self.assertFalse(fewer_do(web, falls, len(puts(web, falls)[0])), (web, falls))
        for seed in range(12):
            web = samples.random_web(seed, 5, 4 + seed % 4)
            self.assertFalse(fewer_do(web, 1, len(puts(web, 1)[0])), web)

    def test_none_where_the_web_stands_already(self):
        seen = 0
        for web in SMALL + GREATER:
            for falls in (1, 2):
                standing = brute.stands(web, falls) if len(web[1]) < 9 else stands(web, falls)
                seen += standing
                self.assertEqual(puts(web, falls)[0] == [], standing, (web, falls))
        self.assertGreater(seen, 100)

    def test_asked_with_them_none_are_told(self):
        for web in GREATER[::5]:
            for falls in (1, 2):
                added, family = puts(brute.web_with(web, puts(web, falls)[0]), falls)
                self.assertEqual(added, [])
                self.assertTrue(is_family(web[0], family))


if __name__ == "__main__":
    unittest.main()
