import unittest

from nofall.stands import stands

from tests import brute, samples
from tests.samples import asked_twice

SMALL = [web for n, most in ((1, 0), (2, 4), (3, 6), (4, 6)) for web in brute.small_webs(n, most)]
GREATER = samples.shaped_small_webs() + samples.random_small_webs(84)


class StandsTest(unittest.TestCase):
    def verdicts(self, web, one, two):
        self.assertIs(stands(web, 1), one, web)
        self.assertIs(stands(web, 2), two, web)

    def test_one_place_alone(self):
        self.verdicts((1, ()), True, True)

    def test_two_places(self):
        for count in range(41):
            self.verdicts((2, ((0, 1),) * count), count > 1, count > 2)

    def test_plain(self):
        self.verdicts(samples.line(8), False, False)
        self.verdicts(samples.ring(3), True, False)
        self.verdicts(samples.ring(8), True, False)
        self.verdicts(samples.BOW, True, False)
        self.verdicts(samples.TWO_RINGS, False, False)
        self.verdicts(samples.full(4), True, True)
        self.verdicts(samples.full(8), True, True)
        self.verdicts((3, ((0, 1), (0, 1), (0, 2), (0, 2), (1, 2))), True, True)
        self.verdicts((3, ((0, 1), (0, 1), (0, 2), (1, 2))), True, False)

    def test_several_parts(self):
        self.verdicts((2, ()), False, False)
        self.verdicts((8, ()), False, False)
        self.verdicts((4, ((0, 1),) * 20 + ((2, 3),) * 20), False, False)
        self.verdicts((5, samples.full(4)[1]), False, False)

    def test_where_only_a_great_set_is_left_by_few(self):
        # Each place has four ties or more, and two halves hang on two of them.
        half = samples.full(4)[1]
        other = tuple((a + 4, b + 4) for a, b in half)
        for count in range(4):
            web = (8, tuple(sorted(half + other + half + other + ((0, 4),) * count)))
            self.verdicts(web, count > 1, count > 2)

    def test_more_than_forty_ties(self):
        self.verdicts((2, ((0, 1),) * 340), True, True)
        self.verdicts((8, samples.full(8)[1] * 2), True, True)
        self.verdicts((3, ((0, 1),) * 300 + ((1, 2),)), False, False)
        self.verdicts((3, ((0, 1),) * 300 + ((1, 2),) * 2), True, False)

    def test_against_each_fall(self):
        for web in SMALL + GREATER:
            for falls in (1, 2):
                self.assertIs(asked_twice(self, stands, web, falls), brute.stands(web, falls), (web, falls))


if __name__ == "__main__":
    unittest.main()
