import unittest

from nofall.errors import NoOffers
from nofall.offers import cheapest, is_answer
from nofall.tries import tree_holds

from tests import brute, samples
from tests.samples import asked_twice, same_kind

OFFERED = samples.offered_webs(120)
LINE = samples.line(3)
REFUSING = [(2, ()), (2, ((0, 1), (0, 1))), (3, ()), samples.BOW, samples.full(8)]


class NoOffersTest(unittest.TestCase):
    def test_no_offers(self):
        for web in REFUSING:
            for thing in samples.no_offers(web[0]):
                self.assertRaises(NoOffers, is_answer, web, thing, [])
                self.assertRaises(NoOffers, cheapest, web, thing)
                self.assertRaises(NoOffers, tree_holds, web, thing, 0, ("weights", []))

    def test_whatever_stands_beside_them(self):
        for thing in samples.no_offers(3)[::7]:
            for other in samples.things():
                self.assertRaises(NoOffers, is_answer, LINE, thing, other)
                self.assertRaises(NoOffers, tree_holds, LINE, thing, 0, other)

    def test_one_place_has_no_offer(self):
        for thing in ([(0, 0, 0)], [(0, 1, 0)], [None], [()], ((0, 0, 1),)):
            self.assertRaises(NoOffers, cheapest, (1, ()), thing)
            self.assertRaises(NoOffers, is_answer, (1, ()), thing, [])

    def test_every_short_tuple(self):
        numbers = [-1, 0, 1, 2, True]
        for a in numbers:
            for b in numbers:
                for cost in numbers:
                    right = {a, b} == {0, 1} and cost >= 0 and not any(x is True for x in (a, b, cost))
                    if right:
                        self.assertIs(is_answer((2, ((0, 1),)), [(a, b, cost)], [0]), True)
                    else:
                        self.assertRaises(NoOffers, is_answer, (2, ((0, 1),)), [(a, b, cost)], [0])

    def test_eight_and_no_more(self):
        for count in range(12):
            offers = [(0, 1, 1)] * count
            for given in (offers, tuple(offers)):
                if count <= 8:
                    self.assertIs(is_answer((2, ((0, 1),)), given, []), False)
                else:
                    self.assertRaises(NoOffers, is_answer, (2, ((0, 1),)), given, [])
                    self.assertRaises(NoOffers, cheapest, (2, ((0, 1),)), given)
                    self.assertRaises(NoOffers, tree_holds, (2, ()), given, 0, ("weights", []))


class IsAnswerTest(unittest.TestCase):
    def test_plain(self):
        offers = [(2, 0, 3), (0, 1, 1), (1, 2, 1)]
        for numbers, right in (([0], True), ([1, 2], True), ([0, 1, 2], True), ([1], False), ([2], False), ([], False)):
            self.assertIs(is_answer(LINE, offers, numbers), right)
            self.assertIs(is_answer(LINE, tuple(offers), numbers), right)
        self.assertIs(is_answer((1, ()), [], []), True)
        self.assertIs(is_answer(samples.ring(8), (), []), True)

    def test_every_rising_list(self):
        for web, offers in OFFERED[:60]:
            right = [numbers for cost, numbers in brute.answers(web, offers)]
            for numbers in brute.subsets(range(len(offers))):
                told = asked_twice(self, is_answer, web, offers, numbers)
                self.assertIs(told, numbers in right, (web, offers, numbers))

    def test_whatever_else(self):
        offers = [(0, 1, 1), (1, 2, 1), (0, 2, 1)]
        wrong = [(), (0, 1, 2), [0, 1, 2, 3], [0, 0], [2, 1], [1, 0, 2], [0, 1, 2, 2], [3], [-1], [-1, 0, 1, 2], [True],
                 [False, True], [0, True], [0, 1, 2.0], ["0"], "012", [None], [[0]], {0: 1}, {0, 1, 2}, 0, 3, -1,
                 range(3), [0, 1, 2, 10 ** 29], [0, 1, "2"], [(0, 1, 1)], offers, iter([0]), [2, 1, 0]]
        for web in (LINE, samples.ring(3)):
            for thing in wrong + samples.long_things() + [x for x in samples.things() if x not in ([], [0], [1, 2])]:
                self.assertIs(is_answer(web, offers, thing), False, thing)

    def test_every_short_list(self):
        offers = [(0, 1, 1), (1, 2, 1), (0, 2, 1)]
        numbers = [-1, 0, 1, 2, 3, True]
        for row in [[x] for x in numbers] + [[x, y] for x in numbers for y in numbers]:
            rising = any(same_kind(row, some) for some in brute.subsets(range(3)))
            self.assertIs(is_answer(samples.ring(3), offers, row), rising, row)


class CheapestTest(unittest.TestCase):
    def look_at(self, web, offers):
        told = asked_twice(self, cheapest, web, offers)
        self.assertIs(type(told), tuple)
        right = brute.answers(web, offers)
        if not right:
            self.assertEqual((len(told), told[0]), (2, "barred"), (web, offers))
            self.assertIn(told[1], brute.proper_subsets(web[0]))
            ties = web[1] + tuple(offer[:2] for offer in offers)
            self.assertLess(sum(brute.leaves_set(tie, told[1]) for tie in ties), 2, (web, offers))
            self.assertIs(tree_holds(web, offers, 10 ** 30, told), True)
            return None
        word, cost, numbers, tree = told
        self.assertEqual(word, "cheapest")
        self.assertTrue(same_kind(cost, right[0][0]), (web, offers, told))
        self.assertIn((cost, numbers), right)
        self.assertTrue(same_kind(numbers, sorted(numbers)))
        self.assertTrue(brute.tree_holds(web, offers, cost, tree))
        self.assertIs(tree_holds(web, offers, cost, tree), True)
        self.assertIs(tree_holds(web, offers, cost + 1, tree), False)
        return cost

    def test_against_all_lists(self):
        costs = [self.look_at(web, offers) for web, offers in OFFERED]
        self.assertGreater(len([cost for cost in costs if cost is None]), 15)
        self.assertGreater(len([cost for cost in costs if cost == 0]), 15)
        self.assertGreater(len([cost for cost in costs if cost and cost < 100]), 15)
        self.assertGreater(len([cost for cost in costs if cost and cost > 10 ** 28]), 5)

    def test_all_small_webs(self):
        offers = [(0, 1, 2), (2, 1, 1), (1, 2, 3), (2, 0, 2), (0, 1, 0)]
        for web in brute.small_webs(3, 3):
            for given in brute.subsets(offers):
                self.look_at(web, given)

    def test_webs_that_stand_already(self):
        for web in (samples.ring(8), samples.full(8), samples.BOW, (2, ((0, 1),) * 40)):
            for offers in ([], (), [(0, 1, 3)], [(0, 1, 3), (1, 0, 1)] * 4):
                told = cheapest(web, offers)
                self.assertTrue(same_kind(told[:3], ("cheapest", 0, [])), told)
                self.assertIs(tree_holds(web, offers, 0, told[3]), True)

    def test_one_place_alone(self):
        for offers in ([], ()):
            told = cheapest((1, ()), offers)
            self.assertTrue(same_kind(told[:3], ("cheapest", 0, [])), told)
            self.assertIs(tree_holds((1, ()), offers, 0, told[3]), True)
            self.assertIs(tree_holds((1, ()), offers, 1, told[3]), False)

    def test_no_offers_and_no_answer(self):
        self.assertIn(cheapest(LINE, []), [("barred", some) for some in ([0], [2], [0, 1], [1, 2])])
        self.assertIn(cheapest((2, ()), [(0, 1, 7)]), [("barred", [0]), ("barred", [1])])

    def test_costs_of_nothing(self):
        self.assertEqual(cheapest(LINE, [(0, 1, 0), (0, 2, 1), (1, 2, 0)])[:2], ("cheapest", 0))

    def test_great_costs(self):
        great = samples.GREAT_COST
        told = cheapest(LINE, [(0, 2, great), (1, 2, great - 1), (0, 1, 2)])
        self.assertEqual(told[:3], ("cheapest", great, [0]))
        told = cheapest((2, ()), [(0, 1, great), (1, 0, great), (0, 1, great)])
        self.assertEqual(told[1], 2 * great)

    def test_a_list_and_a_tuple_are_told_alike(self):
        for web, offers in OFFERED[::5]:
            self.assertTrue(same_kind(cheapest(web, list(offers)), cheapest(web, tuple(offers))))

    def test_what_is_done_to_the_offers_later_changes_nothing(self):
        offers = [(0, 1, 2), (0, 1, 3), (0, 1, 4)]
        told = cheapest((2, ()), offers)
        before = samples.copied(told)
        offers.clear()
        self.assertTrue(same_kind(told, before))


if __name__ == "__main__":
    unittest.main()
