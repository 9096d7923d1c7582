import unittest
from random import Random

from nofall.errors import NoBack, NoPlace, NoTie, NoWeb, TooMany
from nofall.keeper import Keeper
from nofall.pieces import tree
from nofall.webs import is_web

from tests import brute, samples
from tests.samples import same_kind, spoil

WEBS = samples.shaped_webs() + [samples.random_web(seed, 2 + seed % 15, (seed * 7) % 41) for seed in range(20)]


def told_of(keeper):
    return (keeper.ties(), keeper.pieces(), keeper.cut_ties())


class KeeperTest(unittest.TestCase):
    def same(self, told, right):
        self.assertTrue(same_kind(told, right), (told, right))

    def alike(self, keeper, ledger):
        """All that the keeper tells is what a web made anew of the ties would tell."""
        self.same(told_of(keeper), (ledger.ties(), ledger.pieces(), ledger.cut_ties()))

    def pairs_alike(self, keeper, ledger):
        home = {place: k for k, some in enumerate(ledger.pieces()) for place in some}
        for a in range(ledger.n):
            for b in range(ledger.n):
                self.assertIs(keeper.of_one_piece(a, b), home[a] == home[b], (a, b))

    def deed(self, chance, keeper, ledger):
        """A deed by chance; the keeper tells what the ledger does."""
        choice = chance.randrange(10)
        if choice < 2 and ledger.past:
            self.assertIs(keeper.back(), ledger.back())
        elif choice < 6 and ledger.rows:
            name = chance.choice(sorted(ledger.rows))
            self.same(keeper.drop(name), ledger.drop(name))
        elif ledger.n > 1 and len(ledger.rows) < 40:
            a, b = chance.sample(range(ledger.n), 2)
            self.same(keeper.put(a, b), ledger.put(a, b))


class MadeTest(KeeperTest):
    def test_as_the_web_is(self):
        for web in WEBS:
            keeper = Keeper(web)
            self.same(keeper.ties(), [(number,) + tie for number, tie in enumerate(web[1])])
            self.same(keeper.pieces(), tree(web)[0])
            self.same(keeper.cut_ties(), brute.cut_ties(web))
            self.alike(keeper, brute.Ledger(web))
            self.pairs_alike(keeper, brute.Ledger(web))

    def test_one_place_alone(self):
        keeper = Keeper((1, ()))
        self.same(told_of(keeper), ([], [[0]], []))
        self.assertIs(keeper.of_one_piece(0, 0), True)
        self.assertRaises(NoPlace, keeper.put, 0, 0)
        self.assertRaises(NoPlace, keeper.put, 0, 1)
        self.assertRaises(NoTie, keeper.drop, 0)
        self.assertRaises(NoBack, keeper.back)

    def test_no_web(self):
        for thing in samples.no_webs():
            self.assertFalse(is_web(thing))
            self.assertRaises(NoWeb, Keeper, thing)


class DeedsTest(KeeperTest):
    def test_put_within_a_part(self):
        keeper = Keeper(samples.line(5))
        self.same(keeper.put(3, 1), (4, [[1], [2], [3]]))
        self.same(keeper.pieces(), [[0], [1, 2, 3], [4]])
        self.same(keeper.cut_ties(), [0, 3])
        self.same(keeper.put(0, 4), (5, [[0], [1, 2, 3], [4]]))
        self.same(keeper.put(0, 2), (6, []))
        self.same(told_of(keeper), ([(0, 0, 1), (1, 1, 2), (2, 2, 3), (3, 3, 4), (4, 1, 3), (5, 0, 4), (6, 0, 2)],
                                    [[0, 1, 2, 3, 4]], []))

    def test_put_between_two_parts(self):
        keeper = Keeper((4, ((0, 1), (2, 3))))
        self.same(keeper.put(3, 0), (2, []))
        self.same(keeper.cut_ties(), [0, 1, 2])
        self.same(keeper.put(0, 3), (3, [[0], [3]]))
        self.same(keeper.ties(), [(0, 0, 1), (1, 2, 3), (2, 0, 3), (3, 0, 3)])

    def test_drop(self):
        keeper = Keeper(samples.TWO_RINGS)
        self.same(keeper.drop(3), (None, []))
        self.same(keeper.drop(0), ([0, 1, 2], [[0], [1], [2]]))
        self.same(keeper.drop(1), (None, []))
        self.same(keeper.ties(), [(2, 1, 2), (4, 3, 4), (5, 3, 5), (6, 4, 5)])
        self.same(keeper.cut_ties(), [2])

    def test_drop_that_leaves_a_piece_whole(self):
        keeper = Keeper(samples.full(4))
        self.same(keeper.drop(2), (None, []))
        self.same(keeper.pieces(), [[0, 1, 2, 3]])
        self.same(Keeper((2, ((0, 1),) * 3)).drop(1), (None, []))
        self.same(Keeper((2, ((0, 1),) * 2)).drop(1), ([0, 1], [[0], [1]]))

    def test_of_alike_ties_the_named_one_goes(self):
        keeper = Keeper(samples.ALIKE)
        keeper.drop(0)
        self.same(keeper.ties(), [(1, 0, 1), (2, 1, 2), (3, 2, 3), (4, 2, 3)])
        self.same(keeper.cut_ties(), [1, 2])
        keeper.put(1, 0)
        self.same(keeper.ties(), [(1, 0, 1), (2, 1, 2), (3, 2, 3), (4, 2, 3), (5, 0, 1)])
        keeper.drop(1)
        self.same(keeper.cut_ties(), [2, 5])

    def test_names(self):
        keeper = Keeper(samples.line(3))
        names = [keeper.put(0, 2)[0], keeper.put(0, 1)[0]]
        keeper.drop(3)
        names.append(keeper.put(0, 1)[0])
        keeper.drop(4)
        keeper.back()
        keeper.back()
        names.append(keeper.put(1, 2)[0])
        self.same(names, [2, 3, 4, 4])
        self.same([row[0] for row in keeper.ties()], [0, 1, 2, 4])

    def test_a_name_taken_back_comes_again_a_dropped_one_does_not(self):
        keeper = Keeper((2, ()))
        self.same(keeper.put(0, 1), (0, []))
        keeper.back()
        self.same(keeper.put(0, 1), (0, []))
        keeper.drop(0)
        self.same(keeper.put(0, 1), (1, []))
        keeper.back()
        keeper.back()
        self.same(keeper.ties(), [(0, 0, 1)])
        self.same(keeper.put(1, 0), (1, [[0], [1]]))
        self.same(keeper.ties(), [(0, 0, 1), (1, 0, 1)])

    def test_drops_of_all_and_puts_behind_them(self):
        keeper = Keeper(samples.ring(4))
        for name in range(4):
            keeper.drop(name)
        self.same(told_of(keeper), ([], [[0], [1], [2], [3]], []))
        self.assertEqual([keeper.put(0, 1)[0] for step in range(3)], [4, 5, 6])

    def test_several_backs_and_a_keeper_when_all_is_taken_back(self):
        for web in WEBS:
            keeper, ledger, chance = Keeper(web), brute.Ledger(web), Random(3)
            before = told_of(keeper)
            for step in range(12):
                self.deed(chance, keeper, ledger)
            for step in range(len(ledger.past)):
                self.assertIs(keeper.back(), True)
                ledger.back()
                self.same(keeper.ties(), ledger.ties())
            self.same(told_of(keeper), before)
            self.assertRaises(NoBack, keeper.back)
            self.same(told_of(keeper), before)
            if web[0] > 1 and len(web[1]) < 40:
                self.assertEqual(keeper.put(0, 1)[0], len(web[1]))

    def test_long_rows_of_deeds(self):
        for seed, web in enumerate(WEBS):
            keeper, ledger, chance = Keeper(web), brute.Ledger(web), Random(seed)
            for step in range(60):
                self.deed(chance, keeper, ledger)
                if step % 4 == 0:
                    self.alike(keeper, ledger)
            self.pairs_alike(keeper, ledger)

    def test_small_webs_by_each_two_places(self):
        chance = Random(1)
        for seed in range(12):
            web = samples.random_web(seed, 5, seed % 9)
            keeper, ledger = Keeper(web), brute.Ledger(web)
            for step in range(25):
                self.deed(chance, keeper, ledger)
                self.same(keeper.pieces(), brute.pieces(ledger.web()))

    def test_two_keepers_by_turns(self):
        chance = Random(8)
        for web in (samples.TWO_RINGS, samples.SCATTERED, samples.ALIKE):
            pairs = [(Keeper(web), brute.Ledger(web)) for step in range(2)]
            for step in range(40):
                self.deed(chance, *pairs[step % 2])
                for keeper, ledger in pairs:
                    self.alike(keeper, ledger)


class OnTheWayTest(KeeperTest):
    def way_between(self, web, a, b):
        """The numbers of the pieces on the way between two places in the tree, or none."""
        sets, links = tree(web)
        home = {place: k for k, some in enumerate(sets) for place in some}
        ways = brute.all_ways((len(sets), tuple((i, j) for number, i, j in links)), home[a], home[b])
        return [sets[k] for k in sorted(ways[0][0])] if ways else []

    def test_a_put_makes_one_of_those_on_the_way(self):
        for web in samples.shaped_webs() + [samples.random_web(seed, 9, 8 + seed % 3) for seed in range(12)]:
            if len(web[1]) < 40:
                for a in range(web[0]):
                    for b in range(a):
                        on = self.way_between(web, a, b)
                        keeper = Keeper(web)
                        self.same(keeper.put(a, b), (len(web[1]), on if len(on) > 1 else []))
                        if len(on) > 1:
                            self.assertIn(sorted(sum(on, [])), keeper.pieces())

    def test_a_piece_that_falls_apart_makes_a_row(self):
        seen = 0
        for web in samples.shaped_webs() + [samples.random_web(seed, 7, 7 + seed % 5) for seed in range(40)]:
            for number in range(len(web[1])):
                keeper = Keeper(web)
                a, b = web[1][number]
                piece, sets = keeper.drop(number)
                if piece is None:
                    self.same(sets, [])
                    self.assertEqual(keeper.pieces(), brute.pieces_by_cuts(web))
                    continue
                seen += 1
                self.assertGreater(len(sets), 1)
                self.assertIn(piece, brute.pieces_by_cuts(web))
                self.assertEqual(sorted(sum(sets, [])), piece)
                left = brute.web_without(web, number)
                self.assertEqual(self.way_between(left, a, b), sets)
                self.assertEqual([some for some in keeper.pieces() if some[0] in piece], sets)
        self.assertGreater(seen, 60)

    def test_a_drop_of_what_was_put_turns_it_about(self):
        for web in samples.shaped_webs():
            if 1 < web[0] and len(web[1]) < 40:
                keeper = Keeper(web)
                name, sets = keeper.put(0, web[0] - 1)
                piece, fallen = keeper.drop(name)
                self.same(fallen, sets)
                self.assertEqual(piece, sorted(sum(sets, [])) if sets else None)


class RefusalsTest(KeeperTest):
    def refused(self, keeper, refusal, ask, *given):
        before = told_of(keeper)
        self.assertRaises(refusal, ask, *given)
        self.same(told_of(keeper), before)

    def test_no_place(self):
        for web in ((1, ()), (2, ()), samples.ALIKE, samples.line(16)):
            keeper = Keeper(web)
            for thing in samples.no_numbers(web[0]):
                for given in ((thing, 0), (0, thing), (thing, thing)):
                    self.refused(keeper, NoPlace, keeper.put, *given)
                    self.refused(keeper, NoPlace, keeper.of_one_piece, *given)

    def test_a_place_twice(self):
        keeper = Keeper(samples.SCATTERED)
        for v in range(9):
            self.refused(keeper, NoPlace, keeper.put, v, v)
            self.assertIs(keeper.of_one_piece(v, v), True)

    def test_too_many(self):
        keeper = Keeper((3, ((0, 1),) * 20 + ((1, 2),) * 19))
        self.same(keeper.put(0, 2), (39, []))
        self.refused(keeper, TooMany, keeper.put, 0, 2)
        self.refused(keeper, TooMany, keeper.put, 2, 1)
        for given in ((0, 0), (0, 3), (-1, 0), (True, 0), (None, None), ("0", "1")):
            self.refused(keeper, NoPlace, keeper.put, *given)
        keeper.drop(5)
        self.same(keeper.put(0, 2), (40, []))
        self.refused(keeper, TooMany, keeper.put, 0, 2)
        keeper.back()
        self.same(keeper.put(2, 1), (40, []))
        keeper.back()
        keeper.back()
        self.refused(keeper, TooMany, keeper.put, 0, 2)
        keeper.back()
        self.same(keeper.put(0, 1), (39, []))
        self.refused(Keeper((2, ((0, 1),) * 40)), TooMany, Keeper((2, ((0, 1),) * 40)).put, 0, 1)

    def test_no_tie(self):
        keeper = Keeper(samples.ring(3))
        keeper.put(0, 1)
        keeper.drop(1)
        for thing in samples.things() + [1, 4, 5, -1, -2, 99, 10 ** 29, -10 ** 29, (0, 0, 1), [0, 0, 1]]:
            self.refused(keeper, NoTie, keeper.drop, thing)
        for name in (0, 2, 3):
            keeper.drop(name)
            self.refused(keeper, NoTie, keeper.drop, name)

    def test_a_name_that_is_taken_back_is_gone(self):
        keeper = Keeper((2, ()))
        keeper.put(0, 1)
        keeper.back()
        self.refused(keeper, NoTie, keeper.drop, 0)

    def test_what_is_refused_is_no_deed(self):
        keeper = Keeper(samples.line(3))
        for ask, given, refusal in ((keeper.put, (0, 0), NoPlace), (keeper.drop, (2,), NoTie), (keeper.back, (), NoBack),
                                    (keeper.put, (0, None), NoPlace), (keeper.drop, (True,), NoTie)):
            self.refused(keeper, refusal, ask, *given)
        self.assertRaises(NoBack, keeper.back)
        self.same(keeper.put(0, 2), (2, [[0], [1], [2]]))
        self.assertRaises(NoTie, keeper.drop, 7)
        self.assertRaises(NoPlace, keeper.put, 3, 0)
        self.assertIs(keeper.back(), True)
        self.same(told_of(keeper), ([(0, 0, 1), (1, 1, 2)], [[0], [1], [2]], [0, 1]))
        self.refused(keeper, NoBack, keeper.back)


class OwnTest(KeeperTest):
    def test_what_is_told_is_the_askers_own(self):
        for web in (samples.TWO_RINGS, samples.line(5), samples.SCATTERED):
            keeper, ledger = Keeper(web), brute.Ledger(web)
            for step in range(3):
                for told in told_of(keeper):
                    spoil(told)
                self.alike(keeper, ledger)
                a, b = step, web[0] - 1
                spoil(keeper.put(a, b))
                name = ledger.put(a, b)[0]
                self.alike(keeper, ledger)
                spoil(keeper.drop(step))
                ledger.drop(step)
                self.alike(keeper, ledger)
                self.assertIn(name, [row[0] for row in keeper.ties()])
            for step in range(6):
                keeper.back()
            self.alike(keeper, brute.Ledger(web))

    def test_told_lists_are_not_changed_by_later_deeds(self):
        keeper = Keeper(samples.line(5))
        told = told_of(keeper) + keeper.put(0, 4) + keeper.drop(1)
        kept = samples.copied(told)
        keeper.put(1, 2)
        keeper.drop(0)
        keeper.back()
        self.same(told, kept)

    def test_asked_again_the_same_is_told(self):
        for web in WEBS:
            keeper = Keeper(web)
            self.same(told_of(keeper), told_of(keeper))
        self.assertEqual(web, WEBS[-1])


if __name__ == "__main__":
    unittest.main()
