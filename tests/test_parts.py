import unittest

from nofall.errors import NoPlace
from nofall.parts import is_way, leads, one_way, parts, way
from nofall.webs import web_of

from tests import brute, samples
from tests.samples import asked_twice, same_kind

SMALL = [web for n, most in ((1, 0), (2, 3), (3, 4), (4, 4)) for web in brute.small_webs(n, most)]
SMALL_ONE = [one for n, most in ((1, 0), (2, 3), (3, 4), (4, 3)) for one in brute.small_one_ways(n, most)]


def pairs(web):
    return [(a, b) for a in range(web[0]) for b in range(web[0])]


class PartsTest(unittest.TestCase):
    def test_plain(self):
        self.assertEqual(parts((1, ())), [[0]])
        self.assertEqual(parts((3, ())), [[0], [1], [2]])
        self.assertEqual(parts((2, ((0, 1), (0, 1)))), [[0, 1]])
        self.assertEqual(parts(samples.line(16)), [list(range(16))])
        self.assertEqual(parts(samples.SCATTERED), [[0, 4], [1, 2], [3, 5, 8], [6], [7]])
        self.assertEqual(parts((5, ((0, 4), (1, 3)))), [[0, 4], [1, 3], [2]])

    def test_rising_however_the_ties_run(self):
        self.assertEqual(parts((6, ((0, 5), (1, 4), (2, 4), (2, 5)))), [[0, 1, 2, 4, 5], [3]])
        self.assertEqual(parts((12, ((0, 11), (2, 11), (2, 10), (9, 10)))),
                         [[0, 2, 9, 10, 11], [1], [3], [4], [5], [6], [7], [8]])

    def test_against_marks(self):
        for web in SMALL + samples.shaped_webs() + samples.random_webs():
            told = asked_twice(self, parts, web)
            self.assertTrue(same_kind(told, brute.parts(web)), web)


class WayTest(unittest.TestCase):
    def no_way_or_right(self, told, right, web, a, b):
        if told is None:
            self.assertEqual(right, [], (web, a, b))
        else:
            self.assertTrue(any(same_kind(told, one) for one in right), (web, a, b, told))

    def test_to_itself(self):
        for web in samples.shaped_webs():
            for a in range(web[0]):
                self.assertTrue(same_kind(way(web, a, a), ([a], [])))
                self.assertTrue(same_kind(one_way(web, a, a), ([a], [])))

    def test_lines(self):
        web = samples.line(16)
        self.assertEqual(way(web, 0, 15), (list(range(16)), list(range(15))))
        self.assertEqual(way(web, 15, 0), (list(range(15, -1, -1)), list(range(14, -1, -1))))
        self.assertEqual(way(web, 7, 5), ([7, 6, 5], [6, 5]))
        self.assertEqual(one_way(web, 0, 15), (list(range(16)), list(range(15))))
        self.assertIsNone(one_way(web, 15, 0))
        self.assertIsNone(one_way(web, 7, 6))

    def test_no_way(self):
        self.assertIsNone(way((2, ()), 0, 1))
        self.assertIsNone(way(samples.SCATTERED, 0, 1))
        self.assertIsNone(way(samples.SCATTERED, 8, 7))
        self.assertIsNone(one_way((2, ((0, 1), (0, 1))), 1, 0))
        self.assertIsNone(one_way((3, ((0, 1), (2, 1))), 0, 2))

    def test_one_way_only_as_ties_lead(self):
        one = (4, ((0, 1), (1, 2), (2, 3), (3, 0)))
        self.assertEqual(one_way(one, 1, 0), ([1, 2, 3, 0], [1, 2, 3]))
        self.assertEqual(one_way(one, 0, 3), ([0, 1, 2, 3], [0, 1, 2]))
        self.assertEqual(one_way((2, ((0, 1), (1, 0))), 1, 0), ([1, 0], [1]))

    def test_every_small_web(self):
        for web in SMALL:
            for a, b in pairs(web):
                told = asked_twice(self, way, web, a, b)
                self.no_way_or_right(told, brute.all_ways(web, a, b), web, a, b)

    def test_every_small_one_way_web(self):
        for one in SMALL_ONE:
            for a, b in pairs(one):
                told = asked_twice(self, one_way, one, a, b)
                self.no_way_or_right(told, brute.all_ways(one, a, b, False), one, a, b)

    def test_great_webs(self):
        for web in samples.shaped_webs() + samples.random_webs():
            for a, b in pairs(web):
                told = way(web, a, b)
                self.assertEqual(told is None, not brute.joined(web, a, b))
                if told is not None:
                    self.assertIs(is_way(web, a, b, told), True)
                    self.check_by_hand(web, a, b, told, True)

    def test_great_one_way_webs(self):
        for one in samples.random_one_ways():
            for a, b in pairs(one):
                told = one_way(one, a, b)
                self.assertEqual(told is None, b not in self.reached(one, a))
                if told is not None:
                    self.assertIs(leads(one, a, b, told), True)
                    self.check_by_hand(one, a, b, told, False)

    def reached(self, one, a):
        near = {a}
        for step in range(one[0]):
            near |= {y for x, y in one[1] if x in near}
        return near

    def check_by_hand(self, web, a, b, told, both):
        places, ties = told
        self.assertIs(type(told), tuple)
        self.assertEqual((type(places), type(ties)), (list, list))
        self.assertEqual((places[0], places[-1]), (a, b))
        self.assertEqual((len(set(places)), len(ties)), (len(places), len(places) - 1))
        for k, number in enumerate(ties):
            hop = (places[k], places[k + 1])
            self.assertIn(web[1][number], (hop, hop[::-1]) if both else (hop,))

    def test_no_place(self):
        for web in ((1, ()), (2, ((0, 1),)), samples.SCATTERED, samples.line(16)):
            for ask in (way, one_way):
                for thing in samples.no_numbers(web[0]):
                    for a, b in ((thing, 0), (0, thing), (thing, thing), (web[0] - 1, thing), (thing, web[0] - 1)):
                        self.assertRaises(NoPlace, ask, web, a, b)


def rows(web):
    """Every row of up to four numbers that could stand for places or ties of a small web."""
    told = [[]]
    for row in told:
        if len(row) < 4:
            told += [row + [x] for x in range(max(web[0], len(web[1])))]
    return told


class IsWayTest(unittest.TestCase):
    def judge(self, web, a, b, thing, wanted, wanted_one=None):
        before = repr(thing)
        self.assertIs(is_way(web, a, b, thing), wanted, (web, a, b, thing))
        self.assertIs(leads(web, a, b, thing), wanted if wanted_one is None else wanted_one, (web, a, b, thing))
        self.assertEqual(repr(thing), before)

    def test_all_that_can_be_thought_of(self):
        for web in [(1, ()), (2, ((0, 1),)), (2, ((0, 1), (0, 1))), (3, ((0, 1), (1, 2))), (3, ((0, 1), (0, 1), (1, 2))),
                    samples.ring(3)]:
            short = rows(web)
            for a, b in pairs(web):
                both, led = brute.all_ways(web, a, b), brute.all_ways(web, a, b, False)
                for places in short:
                    for ties in short:
                        thing = (places, ties)
                        self.judge(web, a, b, thing, thing in both, thing in led)

    def test_leads_of_all_that_can_be_thought_of(self):
        for one in [(2, ((0, 1), (1, 0))), (3, ((0, 1), (1, 2), (2, 0))), (3, ((0, 1), (2, 1))), (3, ((1, 0), (2, 1)))]:
            short = rows(one)
            for a, b in pairs(one):
                led = brute.all_ways(one, a, b, False)
                for places in short:
                    for ties in short:
                        thing = (places, ties)
                        self.assertIs(leads(one, a, b, thing), thing in led, (one, a, b, thing))

    def test_every_way_of_some_webs(self):
        for web in [samples.TWO_RINGS, samples.BOW, samples.STAR, samples.ALIKE, samples.full(5), samples.ring(16)]:
            for a, b in pairs(web):
                led = brute.all_ways(web, a, b, False)
                for thing in brute.all_ways(web, a, b):
                    self.judge(web, a, b, thing, True, thing in led)
                    places, ties = thing
                    if a != b:
                        self.judge(web, b, a, thing, False)
                        self.judge(web, a, b, (places[::-1], ties[::-1]), False)
                        self.judge(web, a, a, thing, False)
                        self.judge(web, b, b, thing, False)
                    self.judge(web, a, b, (ties, places), False)
                    self.judge(web, a, b, (places + [b], ties), False)
                    self.judge(web, a, b, (places, ties + [0]), False)
                    self.judge(web, a, b, (places[1:], ties), False)
                    self.judge(web, a, b, (places, ties[:-1]) if ties else ([], []), False)

    def test_other_kinds(self):
        web = samples.line(3)
        right = ([0, 1, 2], [0, 1])
        self.judge(web, 0, 2, right, True)
        for thing in ([[0, 1, 2], [0, 1]], ((0, 1, 2), [0, 1]), ([0, 1, 2], (0, 1)), ((0, 1, 2), (0, 1)),
                      ([0, 1, 2], [0, 1], []), ([0, 1, 2],), ([0, 1, 2], None), (None, [0, 1]), ("012", [0, 1]),
                      ([0, 1, 2], "01"), ({0: 0, 1: 1, 2: 2}, [0, 1]), ([0, 1, 2], {0: 0, 1: 1}),
                      ([0, 1, 2], range(2)), ([[0, 1, 2]], [0, 1]), ([0, 1, 2], [[0, 1]]), right + right):
            self.judge(web, 0, 2, thing, False)
        for thing in samples.things():
            self.judge(web, 0, 2, thing, False)
        for thing in samples.things() + [0, 1, -1, 10 ** 29]:
            self.judge(web, 0, 2, (thing, [0, 1]), False)
            self.judge(web, 0, 2, ([0, 1, 2], thing), False)

    def test_truths_in_the_place_of_numbers(self):
        web = samples.line(3)
        for thing in (([False, 1, 2], [0, 1]), ([0, True, 2], [0, 1]), ([0, 1, 2], [False, 1]), ([0, 1, 2], [0, True])):
            self.judge(web, 0, 2, thing, False)
        self.judge(web, 0, 1, ([0, True], [0]), False)
        self.judge(web, 0, 1, ([0, 1], [False]), False)
        self.judge(web, 0, 0, ([False], []), False)
        self.judge(web, 1, 1, ([True], []), False)

    def test_any_thing_among_places_and_ties(self):
        web = samples.line(3)
        for thing in samples.no_numbers(3):
            for k in range(3):
                places = [0, 1, 2]
                places[k] = thing
                self.judge(web, 0, 2, (places, [0, 1]), False)
            self.judge(web, 0, 0, ([thing], []), False)
        for thing in samples.no_numbers(2):
            for k in range(2):
                ties = [0, 1]
                ties[k] = thing
                self.judge(web, 0, 2, ([0, 1, 2], ties), False)

    def test_a_number_below_nought_counts_from_no_end(self):
        web = samples.line(3)
        self.judge(web, 0, 2, ([0, 1, -1], [0, 1]), False)
        self.judge(web, 0, 2, ([0, 1, 2], [0, -1]), False)
        self.judge(web, 0, 2, ([0, 1, 2], [-2, -1]), False)
        self.judge(web, 0, 2, ([-3, 1, 2], [0, 1]), False)

    def test_to_itself(self):
        for web in samples.shaped_webs():
            for a in range(web[0]):
                self.judge(web, a, a, ([a], []), True)
                self.judge(web, a, a, ([], []), False)
                self.judge(web, a, a, ([a, a], [0]), False)
                self.judge(web, a, a, ([a, a], []), False)
                self.judge(web, a, a, ([a], [0]), False)
        self.judge(samples.ring(3), 0, 0, ([0, 1, 2, 0], [0, 2, 1]), False)
        self.judge((2, ((0, 1), (0, 1))), 0, 0, ([0, 1, 0], [0, 1]), False)

    def test_a_place_twice(self):
        web = samples.BOW
        self.judge(web, 0, 4, ([0, 2, 4], [1, 4]), True)
        self.judge(web, 0, 4, ([0, 2, 3, 2, 4], [1, 3, 3, 4]), False)
        self.judge(web, 0, 2, ([0, 1, 0, 2], [0, 0, 1]), False)

    def test_a_wrong_tie(self):
        web = samples.ALIKE
        for first in (0, 1):
            for third in (3, 4):
                self.judge(web, 0, 3, ([0, 1, 2, 3], [first, 2, third]), True)
                self.judge(web, 3, 0, ([3, 2, 1, 0], [third, 2, first]), True, False)
        self.judge(web, 0, 3, ([0, 1, 2, 3], [0, 3, 4]), False)
        self.judge(web, 0, 3, ([0, 1, 3], [0, 3]), False)
        self.judge(web, 0, 1, ([0, 1], [2]), False)

    def test_leads_goes_no_tie_backwards(self):
        one = (3, ((0, 1), (2, 1)))
        self.assertIs(leads(one, 0, 1, ([0, 1], [0])), True)
        self.assertIs(leads(one, 1, 0, ([1, 0], [0])), False)
        self.assertIs(leads(one, 2, 1, ([2, 1], [1])), True)
        self.assertIs(leads(one, 1, 2, ([1, 2], [1])), False)
        self.assertIs(leads(one, 0, 2, ([0, 1, 2], [0, 1])), False)
        both = (2, ((0, 1), (1, 0)))
        self.assertIs(leads(both, 0, 1, ([0, 1], [1])), False)
        self.assertIs(leads(both, 1, 0, ([1, 0], [0])), False)
        self.assertIs(leads(both, 1, 0, ([1, 0], [1])), True)

    def test_no_place_whatever_the_thing_is(self):
        for ask in (is_way, leads):
            for web in ((1, ()), samples.line(3), samples.ring(16)):
                for place in samples.no_numbers(web[0]):
                    for thing in (([0], []), ([place], []), ([0, place], [0]), None, "", 0, [], ((), ())):
                        self.assertRaises(NoPlace, ask, web, place, 0, thing)
                        self.assertRaises(NoPlace, ask, web, 0, place, thing)
                        self.assertRaises(NoPlace, ask, web, place, place, thing)

    def test_a_thing_changed_afterwards(self):
        web = samples.line(3)
        thing = way(web, 0, 2)
        self.judge(web, 0, 2, thing, True)
        thing[0][1] = 0
        self.judge(web, 0, 2, thing, False)
        self.judge(web, 0, 2, way(web, 0, 2), True)


class GivenTest(unittest.TestCase):
    def test_a_list_changed_behind_the_call(self):
        ties = [(0, 1), (1, 2)]
        web = web_of(3, ties)
        ties.clear()
        self.assertEqual(parts(web), [[0, 1, 2]])
        self.assertEqual(way(web, 0, 2), ([0, 1, 2], [0, 1]))


if __name__ == "__main__":
    unittest.main()
