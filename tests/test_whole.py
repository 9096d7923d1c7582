"""Holds what the parts of the program tell against one another."""

import unittest

from nofall.blocks import blocks, inners
from nofall.classes import classes
from nofall.desk import Desk
from nofall.exchanged import exchanged_web
from nofall.falls import cut_places, cut_ties, parts_without, side_of
from nofall.families import best_family, bound
from nofall.keeper import Keeper
from nofall.looker import lets_by
from nofall.needs import leaving, need
from nofall.offers import cheapest, is_answer
from nofall.onelook import one_lets_by, one_stands
from nofall.oneneeds import ins, one_need, outs
from nofall.oneputs import one_puts
from nofall.parts import is_way, parts, way
from nofall.pieces import ends, pieces, tree
from nofall.placelook import place_lets_by, place_stands
from nofall.placeputs import place_puts
from nofall.placeways import by_places
from nofall.puts import puts
from nofall.reader import read_one_way, read_web
from nofall.stands import stands
from nofall.texts import show_one_way, show_web
from nofall.tries import tree_holds
from nofall.twoways import by_ties
from nofall.webs import one_way_of, web_of
from nofall.wayslook import shows_by_places, shows_by_ties

from tests import brute, samples

WEBS = samples.shaped_webs() + samples.random_webs()
SMALL = samples.shaped_small_webs() + samples.random_small_webs(84)
ONES = samples.shaped_small_one_ways() + samples.random_small_one_ways(56)


def home_of(sets):
    return {place: number for number, some in enumerate(sets) for place in some}


def pairs(n):
    return [(a, b) for a in range(n) for b in range(n) if a != b]


def every_place(web):
    return list(range(web[0]))


class FallsAndWaysTest(unittest.TestCase):
    def test_what_parts_and_what_does_not(self):
        for web in WEBS:
            cuts = cut_ties(web)
            for number, (a, b) in enumerate(web[1]):
                left = brute.web_without(web, number)
                self.assertEqual(number in cuts, way(left, a, b) is None)
                self.assertEqual(number in cuts, side_of(web, number) is not None)
                self.assertEqual(number in cuts, len(parts(left)) > len(parts(web)))
            for v in range(web[0]):
                alone = [v] in parts(web)
                self.assertEqual(v in cut_places(web), len(parts_without(web, v)) + alone > len(parts(web)))

    def test_two_ways_just_within_a_piece_and_no_way_just_between_parts(self):
        for web in WEBS:
            piece, part, cuts = home_of(pieces(web)), home_of(parts(web)), cut_ties(web)
            for a, b in pairs(web[0]):
                told = by_ties(web, a, b)
                self.assertIs(shows_by_ties(web, a, b, told), True)
                self.assertEqual(told[0] == "ways", piece[a] == piece[b], (web, a, b))
                self.assertEqual(told[0] == "apart", part[a] != part[b], (web, a, b))
                if told[0] == "tie":
                    self.assertIn(told[1], cuts)
                    self.assertIn(told[1], way(web, a, b)[1])
                if told[0] == "ways":
                    self.assertTrue(is_way(web, a, b, told[1]) and is_way(web, a, b, told[2]))

    def test_by_places_within_blocks(self):
        for web in WEBS:
            part, cuts, all_blocks = home_of(parts(web)), cut_places(web), blocks(web)
            for a, b in pairs(web[0]):
                told = by_places(web, a, b)
                self.assertIs(shows_by_places(web, a, b, told), True)
                self.assertEqual(told[0] == "apart", part[a] != part[b], (web, a, b))
                together = any(a in block and b in block for block in all_blocks)
                self.assertEqual(told[0] in ("ways", "tie"), together, (web, a, b, told))
                if told[0] == "place":
                    self.assertIn(told[1], cuts)
                if told[0] == "ways":
                    self.assertEqual(by_ties(web, a, b)[0], "ways")

    def test_pieces_make_trees(self):
        for web in WEBS:
            sets, links = tree(web)
            self.assertEqual([number for number, i, j in links], cut_ties(web))
            self.assertEqual(sorted(sum(sets, [])), every_place(web))
            self.assertEqual(len(sets) - len(links), len(parts(web)))
            self.assertEqual(len(parts(web_of(len(sets), [(i, j) for number, i, j in links]))), len(parts(web)))
            told_ends, lone = ends(web)
            for number, some in enumerate(sets):
                if len(some) < web[0]:
                    count = brute.leaving(web, some)
                    self.assertEqual((number in told_ends, number in lone), (count == 1, count == 0))

    def test_blocks_share_places_whose_fall_parts(self):
        for web in WEBS:
            all_blocks, cuts = blocks(web), cut_places(web)
            for v in range(web[0]):
                self.assertEqual(len([block for block in all_blocks if v in block]) > 1, v in cuts)
            for inner in inners(web):
                self.assertFalse(set(inner) & set(cuts))
                self.assertTrue(any(set(inner) < set(block) for block in all_blocks))


class StandingTest(unittest.TestCase):
    def test_one_fall(self):
        for web in SMALL:
            self.assertEqual(stands(web, 1), len(pieces(web)) == 1)
            self.assertEqual(stands(web, 1), len(parts(web)) == 1 and cut_ties(web) == [])
            self.assertFalse(stands(web, 2) and not stands(web, 1))
            self.assertEqual(place_stands(web), len(parts(web)) == 1 and cut_places(web) == [])
            self.assertFalse(place_stands(web) and web[0] > 2 and not stands(web, 1), web)

    def test_two_falls_are_one_fall_behind_each_fall(self):
        for web in SMALL[::3]:
            behind = all(stands(brute.web_without(web, number), 1) for number in range(len(web[1])))
            self.assertEqual(stands(web, 2), behind and stands(web, 1), web)

    def test_the_fewest_by_the_ends_and_the_lone_pieces(self):
        for web in SMALL:
            hanging, lone = ends(web)
            sets = pieces(web)
            count = -(-len(hanging) // 2) + len(lone) if len(sets) > 1 else 0
            self.assertEqual(len(puts(web, 1)[0]), count, web)
            if len(sets) > 1:
                family = [sets[number] for number in sorted(hanging + lone)]
                self.assertEqual(bound(web, 1, family), count)
                self.assertIs(lets_by(web, 1, puts(web, 1)[0], family), True)

    def test_ties_put_in_serve_and_are_let_by(self):
        for web in SMALL:
            for falls in (1, 2):
                added, family = puts(web, falls)
                self.assertIs(stands(brute.web_with(web, added), falls), True)
                self.assertIs(lets_by(web, falls, added, family), True)
                self.assertIs(lets_by(web, falls, added, best_family(web, falls)), True)
                self.assertLessEqual(len(puts(web, 1)[0]), len(puts(web, 2)[0]))
            added, paper = place_puts(web)
            made = brute.web_with(web, added)
            self.assertEqual((len(parts(made)), cut_places(made)), (1, []))
            self.assertIs(place_lets_by(web, added, paper), True)
            if web[0] > 2:
                self.assertGreaterEqual(len(added), len(puts(web, 1)[0]))
                self.assertEqual(cut_ties(made), [])


class OneWayTest(unittest.TestCase):
    def test_a_web_led_both_ways(self):
        for web in SMALL[::2]:
            if len(web[1]) <= 20:
                both = one_way_of(web[0], web[1] + tuple((b, a) for a, b in web[1]))
                self.assertEqual(classes(both), parts(web))
                self.assertEqual(one_stands(both, 0), len(parts(web)) == 1)
                self.assertEqual(one_stands(both, 1), stands(web, 1))
                for some in brute.proper_subsets(web[0])[::5]:
                    self.assertEqual((ins(both, some), outs(both, some)), (leaving(web, some), leaving(web, some)))
                    for side in ("in", "out"):
                        self.assertEqual(one_need(both, 1, side, some), need(web, 1, some))

    def test_with_the_ties_put_in_there_is_one_class(self):
        for one in ONES:
            for falls in (0, 1):
                told = one_puts(one, falls)
                made = brute.web_with(one, told[0])
                self.assertEqual(classes(made), [every_place(one)])
                self.assertIs(one_lets_by(one, falls, *told), True)
                for number in range(len(made[1]) if falls else 0):
                    self.assertEqual(len(classes(brute.web_without(made, number))), 1)


class OffersTest(unittest.TestCase):
    def test_answers_put_into_a_keeper_make_one_piece(self):
        seen = 0
        for web, offers in samples.offered_webs(80):
            told = cheapest(web, offers)
            keeper = Keeper(web)
            if told[0] == "cheapest":
                seen += 1
                self.assertIs(is_answer(web, offers, told[2]), True)
                self.assertIs(tree_holds(web, offers, told[1], told[3]), True)
                for number in told[2]:
                    keeper.put(*offers[number][:2])
                self.assertEqual((keeper.pieces(), keeper.cut_ties()), ([every_place(web)], []))
                self.assertLessEqual(len(puts(web, 1)[0]), len(told[2]))
            else:
                for offer in offers:
                    keeper.put(*offer[:2])
                self.assertGreater(len(keeper.pieces()), 1)
        self.assertGreater(seen, 30)

    def test_the_fewest_ties_offered_are_the_cheapest(self):
        for web in SMALL[::3]:
            added = puts(web, 1)[0]
            offers = [tie + (1,) for tie in added] + [(0, 1, 1)] * (8 - len(added))
            if web[0] > 1 and len(added) <= 8:
                told = cheapest(web, offers)
                self.assertEqual(told[:2], ("cheapest", len(added)))
                self.assertIs(tree_holds(web, offers, len(added), told[3]), True)


class KeptTest(unittest.TestCase):
    def test_ties_put_in_make_one_piece(self):
        for web in SMALL:
            added = puts(web, 1)[0]
            if len(web[1]) + len(added) <= 40:
                keeper = Keeper(web)
                for a, b in added:
                    keeper.put(a, b)
                self.assertEqual((keeper.pieces(), keeper.cut_ties()), ([every_place(web)], []))
                for step in added:
                    keeper.back()
                self.assertEqual((keeper.pieces(), keeper.cut_ties()), (pieces(web), cut_ties(web)))

    def test_a_keeper_a_desk_and_a_web_tell_the_same(self):
        for web in WEBS:
            keeper, desk = Keeper(web), Desk(show_web(web))
            self.assertEqual((keeper.pieces(), keeper.cut_ties()), (pieces(web), cut_ties(web)))
            self.assertEqual(desk.say("web"), show_web(web))
            self.assertEqual(desk.say("ends"), "%d %d" % tuple(len(numbers) for numbers in ends(web)))
            self.assertEqual(desk.say("places"), " ".join(map(str, cut_places(web))) or "none")
            home = home_of(pieces(web))
            for a, b in pairs(web[0]):
                self.assertIs(keeper.of_one_piece(a, b), home[a] == home[b])
                self.assertEqual(desk.say("ways %d %d" % (a, b)).split(" ")[0], by_ties(web, a, b)[0])

    def test_what_is_written_reads_back(self):
        for web in WEBS + SMALL:
            self.assertEqual(read_web(show_web(web)), web)
            turned = list(reversed(range(web[0])))
            self.assertEqual(exchanged_web(read_web(show_web(exchanged_web(web, turned))), turned), web)
        for one in ONES + samples.random_one_ways():
            self.assertEqual(read_one_way(show_one_way(one)), one)


if __name__ == "__main__":
    unittest.main()
