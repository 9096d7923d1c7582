import unittest
from random import Random

from nofall.offers import cheapest
from nofall.tries import tree_holds

from tests import brute, samples
from tests.samples import asked_twice

LINE = samples.line(3)
OFFERS = [(0, 2, 3), (0, 1, 1), (2, 1, 1)]
NONE = ("weights", [])
OFFERED = samples.offered_webs(60)


def tree_of(chance, n, free, weights, deep):
    """A tree of the right form, right or wrong, each offer tried once on a way."""
    choice = chance.randrange(10)
    if free and deep > 0 and choice < 6:
        number = chance.choice(free)
        rest = [other for other in free if other != number]
        return ("try", number, tree_of(chance, n, rest, weights, deep - 1), tree_of(chance, n, rest, weights, deep - 1))
    sets = brute.proper_subsets(n)
    if choice < 8 and sets:
        return ("barred", chance.choice(sets))
    rows = [(chance.choice(sets), chance.choice(weights)) for step in range(chance.randrange(4))] if sets else []
    return ("weights", rows)


def mended(web, offers, tree, number, taken=(), left=()):
    """The tree with each leaf that doesn't hold for the number made a try, as long as an offer is free."""
    if tree[0] == "try":
        return tree[:2] + (mended(web, offers, tree[2], number, taken + tree[1:2], left),
                           mended(web, offers, tree[3], number, taken, left + tree[1:2]))
    free = [k for k in range(len(offers)) if k not in taken + left]
    if brute.leaf_holds(web, offers, number, tree, taken, left):
        return tree
    made = brute.web_with(web, [offers[k][:2] for k in taken] + [offers[k][:2] for k in free])
    for some in brute.proper_subsets(web[0]):
        if brute.leaving(made, some) < 2:
            return ("barred", some)
    if not free:
        return NONE
    return mended(web, offers, ("try", free[0], NONE, NONE), number, taken, left)


class PlainTreesTest(unittest.TestCase):
    def yes(self, web, offers, number, tree):
        self.assertIs(asked_twice(self, tree_holds, web, offers, number, tree), True, (web, offers, number, tree))

    def no(self, web, offers, number, tree):
        self.assertIs(tree_holds(web, offers, number, tree), False, (web, offers, number, tree))

    def bounds(self, web, offers, low, tree):
        """Holds for each number up to the low, and for none beyond it."""
        for number in (-10 ** 29, -5, -1, 0, low - 1, low):
            if number <= low:
                self.yes(web, offers, number, tree)
        for number in (low + 1, low + 2, low + 10 ** 29):
            self.no(web, offers, number, tree)

    def test_weights_without_rows(self):
        self.bounds(LINE, OFFERS, 0, NONE)
        self.bounds((1, ()), [], 0, NONE)
        self.bounds(samples.ring(8), (), 0, NONE)

    def test_weights(self):
        self.bounds(LINE, OFFERS, 1, ("weights", [([0], 1)]))
        self.bounds(LINE, OFFERS, 2, ("weights", [([0], 1), ([2], 1)]))
        self.bounds(LINE, OFFERS, 2, ("weights", [([0], 1), ([0, 1], 1)]))
        self.no(LINE, OFFERS, -5, ("weights", [([0], 2)]))
        self.bounds(LINE, [(0, 2, 3)], 3, ("weights", [([0], 3)]))
        self.bounds((2, ()), [(0, 1, 2), (1, 0, 5)], 4, ("weights", [([1], 2)]))
        self.no((2, ()), [(0, 1, 2), (1, 0, 5)], 0, ("weights", [([1], 3)]))

    def test_a_set_that_has_enough_counts_for_nothing_but_weighs(self):
        self.bounds(samples.ring(3), OFFERS, 0, ("weights", [([0], 1)]))
        self.no(samples.ring(3), OFFERS, 0, ("weights", [([0], 2)]))
        self.bounds((2, ((0, 1),) * 40), [], 0, ("weights", [([0], 10 ** 29)]))

    def test_a_set_twice_and_sets_that_share_places(self):
        self.bounds(LINE, [(0, 2, 3)], 3, ("weights", [([0], 1), ([0], 2)]))
        self.no(LINE, [(0, 2, 3)], 3, ("weights", [([0], 2), ([0], 2)]))
        self.bounds(LINE, [(0, 2, 3)], 3, ("weights", [([0], 1), ([0, 1], 1), ([1, 2], 1)]))
        self.no(LINE, [(0, 2, 3)], 3, ("weights", [([0], 2), ([0, 1], 1), ([1, 2], 1)]))
        self.bounds(LINE, [(0, 1, 2), (0, 2, 2)], 2, ("weights", [([0], 1), ([0], 1)]))

    def test_both_places_in_a_set_or_none_weigh_nothing(self):
        offers = [(0, 1, 0), (2, 3, 0), (1, 2, 7)]
        self.bounds((4, ((0, 1), (0, 1), (2, 3), (2, 3))), offers, 14, ("weights", [([0, 1], 7)]))
        self.no((4, ()), offers, 0, ("weights", [([0], 7)]))

    def test_great_weights(self):
        great = samples.GREAT_COST
        self.bounds((2, ()), [(0, 1, great), (0, 1, great)], 2 * great, ("weights", [([0], great)]))
        self.no((2, ()), [(0, 1, great), (0, 1, great - 1)], 0, ("weights", [([0], great)]))
        self.bounds((2, ()), [], 2 * great, ("weights", [([1], great)]))

    def test_barred(self):
        for number in (-3, 0, 1, 10 ** 30):
            self.yes(LINE, [], number, ("barred", [0]))
            self.yes(LINE, [(0, 1, 1)], number, ("barred", [2]))
            self.no(LINE, [(0, 1, 1)], number, ("barred", [0]))
            self.no(samples.ring(3), [], number, ("barred", [0]))
            self.no(LINE, OFFERS, number, ("barred", [1]))
            self.yes((2, ()), [(1, 0, 0)], number, ("barred", [1]))
            self.no((2, ()), [(1, 0, 0)] * 2, number, ("barred", [1]))
            self.no((1, ()), [], number, ("barred", [0]))

    def test_tries(self):
        self.bounds(LINE, [(0, 2, 3)], 3, ("try", 0, NONE, ("barred", [0])))
        self.no(LINE, [(0, 2, 3)], 0, ("try", 0, ("barred", [0]), NONE))
        self.bounds(LINE, [(0, 2, 3)], 0, ("try", 0, NONE, NONE))
        self.bounds(LINE, OFFERS, 2, ("try", 0, NONE, ("try", 1, ("try", 2, NONE, ("barred", [2])), ("barred", [0]))))
        self.bounds(LINE, OFFERS, 2, ("try", 0, NONE, ("weights", [([0], 1), ([2], 1)])))

    def test_taken_offers_weigh_nothing_and_serve(self):
        self.bounds(LINE, [(0, 2, 3), (0, 1, 9)], 3, ("try", 0, ("weights", [([0], 9)]), ("weights", [([0], 9)])))
        self.no(LINE, [(0, 2, 3), (0, 1, 8)], 3, ("try", 0, ("weights", [([0], 9)]), ("weights", [([0], 9)])))

    def test_left_offers_weigh_nothing_and_do_not_serve(self):
        self.bounds(LINE, [(0, 2, 3), (0, 1, 9)], 3, ("try", 0, NONE, ("weights", [([0], 4)])))
        self.bounds(LINE, [(0, 2, 3), (0, 1, 9)], 3, ("try", 0, NONE, ("barred", [2])))
        self.no(LINE, [(0, 2, 3), (0, 1, 9)], 0, ("try", 0, NONE, ("barred", [0])))

    def test_an_offer_tried_twice_on_one_way(self):
        for inner in (("try", 0, NONE, NONE), ("try", 1, ("try", 0, NONE, NONE), NONE)):
            self.no(LINE, OFFERS, 0, ("try", 0, inner, NONE))
            self.no(LINE, OFFERS, 0, ("try", 0, NONE, inner))
        self.yes(LINE, OFFERS, 0, ("try", 0, ("try", 1, NONE, NONE), ("try", 1, NONE, NONE)))

    def test_alike_offers_are_tried_apart(self):
        offers = [(0, 1, 2)] * 3
        last = ("try", 2, NONE, ("barred", [0]))
        tree = ("try", 0, ("try", 1, NONE, last), ("try", 1, last, ("barred", [0])))
        self.bounds((2, ()), offers, 4, tree)


class WrongTreesTest(unittest.TestCase):
    def no(self, tree):
        for number in (-7, 0, 1):
            self.assertIs(tree_holds(LINE, OFFERS, number, tree), False, tree)
            self.assertIs(tree_holds(LINE, OFFERS, number, ("try", 0, tree, NONE)), False, tree)
            self.assertIs(tree_holds(LINE, OFFERS, number, ("try", 2, NONE, ("try", 0, NONE, tree))), False, tree)
            self.assertIs(tree_holds(samples.ring(3), [], number, tree), False, tree)

    def test_no_number_of_an_offer(self):
        for thing in samples.no_numbers(3):
            self.no(("try", thing, NONE, NONE))

    def test_no_set(self):
        for thing in samples.no_sets(3):
            self.no(("barred", thing))
            self.no(("weights", [(thing, 1)]))
            self.no(("weights", [([0], 1), (thing, 1)]))

    def test_no_weight(self):
        for thing in samples.things() + [0, -1, -10 ** 29]:
            self.no(("weights", [([0], thing)]))
            self.no(("weights", [([0], 1), ([1], thing)]))

    def test_no_rows(self):
        rows = [(), (([0], 1),), [[[0], 1]], [([0],)], [([0], 1, 1)], [(1, [0])], [([0], 1), None], [None], [0], [[0]],
                [()], {}, {0: 1}, "", None, 0, 1, True, [([0], 1), ()], [[]], [("weights", [])], iter([]), range(0)]
        for thing in rows + [x for x in samples.things() if not samples.same_kind(x, [])] + samples.long_things():
            self.no(("weights", thing))

    def test_another_word(self):
        for word in ["Try", "tries", "tr", "", "bar", "Barred", "weight", "cheapest", b"try", None, 0] + samples.things():
            self.no((word, 1, NONE, NONE))
            self.no((word, [0]))
            self.no((word, []))
        self.no(("try", []))
        self.no(("try", [0]))
        self.no(("weights", 1, NONE, NONE))
        self.no(("barred", 1, NONE, NONE))

    def test_longer_shorter_and_lists(self):
        for tree in (("try", 1, NONE, NONE), ("barred", [0]), NONE, ("weights", [([0], 1)])):
            self.no(tree + (NONE,))
            self.no(tree + (None,))
            self.no(tree[:-1])
            self.no(list(tree))
            self.no((tree,))
            self.no([tree])
        for tree in (("try", 1, NONE), ("try", 1), ("try",), ("barred",), ("weights",), (), ("try", 1, NONE, list(NONE))):
            self.no(tree)

    def test_whatever_it_is(self):
        for thing in samples.things() + samples.long_things() + ["try", "weights", "barred", 0, 1, -1, 10 ** 29]:
            self.no(thing)
            self.no(("try", 1, thing, NONE))
            self.no(("try", 1, NONE, thing))

    def test_nested_sixty_deep(self):
        for leaf in (NONE, ("barred", [0]), None):
            for place in (2, 3):
                tree = leaf
                for step in range(60):
                    tree = ("try", step % 3, tree, NONE) if place == 2 else ("try", step % 3, NONE, tree)
                self.no(tree)
            both = leaf
            for step in range(60):
                both = ("try", step % 8, both, both)
            self.assertIs(tree_holds((2, ()), [(0, 1, 1)] * 8, 0, both), False)
        self.no(samples.nested(60, list))
        self.no(samples.nested(60, tuple))

    def test_four_hundred_rows(self):
        for rows, right in (([([0], 1)] * 400, True), ([([0], 1)] * 399 + [([0], 0)], False)):
            self.assertIs(tree_holds(LINE, [(0, 2, 400)], 400, ("weights", rows)), right)
            self.assertIs(tree_holds(LINE, [(0, 2, 399)], 0, ("weights", rows)), False)


class TreesOfChanceTest(unittest.TestCase):
    def look_at(self, web, offers, tree, least, seen):
        costs = [least, least + 1, least - 1, 0, -2] if least is not None else [0, 1, 10 ** 30]
        for number in costs:
            right = brute.tree_holds(web, offers, number, tree)
            told = tree_holds(web, offers, number, tree)
            self.assertIs(told, right, (web, offers, number, tree))
            # Whatever tree holds for a number, no answer costs less.
            self.assertFalse(told and least is not None and least < number, (web, offers, number, tree))
            seen[right] += 1

    def test_against_leaves_gone_through(self):
        chance = Random(5)
        seen = {True: 0, False: 0}
        for web, offers in OFFERED:
            answers = brute.answers(web, offers)
            least = answers[0][0] if answers else None
            weights = [1, 1, 2, 10 ** 29] + [offer[2] for offer in offers if offer[2] > 0]
            for step in range(30):
                tree = tree_of(chance, web[0], list(range(len(offers))), weights, chance.randrange(5))
                self.look_at(web, offers, tree, least, seen)
                if step < 3:
                    number = 10 ** 30 if least is None else least
                    better = mended(web, offers, tree, number)
                    self.assertIs(tree_holds(web, offers, number, better), True)
                    self.look_at(web, offers, better, least, seen)
        self.assertGreater(min(seen.values()), 1000)

    def test_what_cheapest_tells(self):
        for web, offers in OFFERED:
            told = cheapest(web, offers)
            if told[0] == "cheapest":
                self.assertIs(asked_twice(self, tree_holds, web, offers, told[1], told[3]), True)
                self.assertIs(tree_holds(web, tuple(offers), told[1] - 1, told[3]), True)
                self.assertIs(tree_holds(web, offers, told[1] + 1, told[3]), False)


if __name__ == "__main__":
    unittest.main()
