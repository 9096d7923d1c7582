import unittest

from nofall.errors import NoPlace
from nofall.placeways import by_places
from nofall.twoways import by_ties
from nofall.wayslook import shows_by_places, shows_by_ties

from tests import brute, samples
from tests.samples import asked_twice, same_kind

SMALL = [web for n, most in ((2, 4), (3, 5), (4, 5), (5, 4)) for web in brute.small_webs(n, most)]
GREAT = samples.shaped_webs() + samples.random_webs()
# Here the first way found may have to give way for two to be there.
CROSSED = [
    (6, ((0, 1), (0, 2), (1, 3), (1, 4), (2, 4), (3, 5), (4, 5))),
    (6, ((0, 1), (0, 2), (1, 4), (2, 3), (3, 4), (3, 5), (4, 5))),
    (8, ((0, 1), (0, 2), (1, 3), (1, 4), (2, 3), (3, 6), (4, 5), (5, 7), (6, 7))),
    (8, ((0, 1), (0, 3), (1, 2), (1, 5), (2, 7), (3, 4), (4, 6), (4, 5), (2, 6), (6, 7))),
    (10, ((0, 1), (0, 4), (1, 2), (2, 3), (3, 9), (2, 5), (4, 5), (1, 6), (5, 7), (6, 8), (7, 9), (8, 9))),
    (7, ((0, 1), (1, 2), (0, 3), (2, 3), (2, 6), (3, 4), (4, 5), (1, 5), (5, 6)))]
CROSSED = [(n, tuple(sorted(ties))) for n, ties in CROSSED]
LADDER = (16, tuple(sorted([(v, v + 2) for v in range(14)] + [(v, v + 1) for v in range(0, 16, 2)])))


def pairs(web):
    return [(a, b) for a in range(web[0]) for b in range(web[0]) if a != b]


class TellTest(unittest.TestCase):
    def right(self, told, showings, given):
        self.assertTrue(any(same_kind(told, one) for one in showings), (given, told))

    def test_by_ties_in_every_small_web(self):
        for web in SMALL:
            for a, b in pairs(web):
                self.right(by_ties(web, a, b), brute.showings_by_ties(web, a, b), (web, a, b))

    def test_by_places_in_every_small_web(self):
        for web in SMALL:
            for a, b in pairs(web):
                self.right(by_places(web, a, b), brute.showings_by_places(web, a, b), (web, a, b))

    def test_just_one_sort(self):
        for web in SMALL:
            for a, b in pairs(web):
                sorts = {thing[0] for thing in brute.showings_by_ties(web, a, b)}
                self.assertEqual(sorts, {by_ties(web, a, b)[0]}, (web, a, b))
                sorts = {thing[0] for thing in brute.showings_by_places(web, a, b)}
                self.assertEqual(sorts, {by_places(web, a, b)[0]}, (web, a, b))

    def test_in_great_webs(self):
        for web in GREAT + CROSSED + [LADDER, samples.full(9)]:
            for a, b in pairs(web):
                told = by_ties(web, a, b)
                self.assertTrue(brute.holds(web, a, b, told, brute.no_common_tie), (web, a, b, told))
                self.assertIs(shows_by_ties(web, a, b, told), True)
                told = by_places(web, a, b)
                self.assertTrue(brute.holds(web, a, b, told, brute.no_common_place), (web, a, b, told))
                self.assertIs(shows_by_places(web, a, b, told), True)
                if told[0] == "tie":
                    self.assertEqual([web[1].count(tuple(sorted((a, b)))), by_ties(web, a, b)[0]], [1, "tie"])

    def test_forms(self):
        for web in GREAT:
            for a, b in pairs(web):
                for ask, sorts in ((by_ties, ("ways", "tie", "apart")), (by_places, ("ways", "place", "tie", "apart"))):
                    told = ask(web, a, b)
                    self.assertIs(type(told), tuple)
                    self.assertIn(told[0], sorts)
                    self.assertEqual(len(told), 2 if told[0] == "apart" else 3)
                    if told[0] != "ways":
                        self.assertIs(type(told[-1]), list)
                        self.assertEqual(told[-1], sorted(set(told[-1])))
                        self.assertTrue(all(type(place) is int for place in told[-1]))

    def test_asked_again(self):
        for web in SMALL[::9] + GREAT[::4] + CROSSED:
            for a, b in pairs(web):
                asked_twice(self, by_ties, web, a, b)
                asked_twice(self, by_places, web, a, b)

    def test_two_alike_ties_are_two_ways(self):
        for ask in (by_ties, by_places):
            for a, b in ((0, 1), (1, 0)):
                told = ask((2, ((0, 1), (0, 1))), a, b)
                self.assertEqual((told[0], sorted(told[1:])), ("ways", [([a, b], [0]), ([a, b], [1])]))

    def test_one_tie_alone(self):
        for ask in (by_ties, by_places):
            self.assertEqual(ask((2, ((0, 1),)), 0, 1), ("tie", 0, [0]))
            self.assertEqual(ask((2, ((0, 1),)), 1, 0), ("tie", 0, [1]))
            self.assertEqual(ask(samples.STAR, 4, 2), ("tie", 3, [4]))
            self.assertEqual(ask(samples.STAR, 2, 4), ("tie", 3, [0, 1, 2, 3]))
            self.assertEqual(ask(samples.TWO_RINGS, 3, 2), ("tie", 3, [3, 4, 5]))
            self.assertEqual(ask(samples.TWO_RINGS, 2, 3), ("tie", 3, [0, 1, 2]))

    def test_apart(self):
        for ask in (by_ties, by_places):
            self.assertEqual(ask((2, ()), 1, 0), ("apart", [1]))
            self.assertEqual(ask(samples.SCATTERED, 5, 2), ("apart", [3, 5, 8]))
            self.assertEqual(ask(samples.SCATTERED, 2, 5), ("apart", [1, 2]))
            self.assertEqual(ask(samples.SCATTERED, 7, 8), ("apart", [7]))

    def test_place_goes_ahead_of_tie(self):
        self.assertEqual(by_places(samples.line(3), 0, 2), ("place", 1, [0]))
        self.assertEqual(by_places(samples.line(3), 2, 0), ("place", 1, [2]))
        self.assertEqual(by_places(samples.BOW, 0, 4), ("place", 2, [0, 1]))
        self.assertEqual(by_places(samples.BOW, 4, 0), ("place", 2, [3, 4]))
        self.assertEqual(by_places(samples.ALIKE, 3, 1), ("place", 2, [3]))
        self.assertEqual(by_places(samples.TWO_RINGS, 2, 4), ("place", 3, [0, 1, 2]))
        self.assertIn(by_ties(samples.line(3), 0, 2), (("tie", 0, [0]), ("tie", 1, [0, 1])))

    def test_two_ways_by_ties_that_meet_in_a_place(self):
        told = by_ties(samples.BOW, 0, 4)
        self.assertEqual(told[0], "ways")
        self.assertTrue(brute.holds(samples.BOW, 0, 4, told, brute.no_common_tie))

    def test_rings_and_trees(self):
        for n in range(3, 17):
            for a, b in pairs((n, ())):
                for ask in (by_ties, by_places):
                    self.assertEqual(ask(samples.ring(n), a, b)[0], "ways")
                self.assertEqual(by_ties(samples.line(n), a, b)[0], "tie")
                self.assertEqual(by_places(samples.line(n), a, b)[0], "tie" if abs(a - b) == 1 else "place")

    def test_no_two_unlike_places(self):
        for web in ((1, ()), (2, ((0, 1), (0, 1))), samples.SCATTERED, samples.line(16)):
            for ask in (by_ties, by_places):
                for place in range(web[0]):
                    self.assertRaises(NoPlace, ask, web, place, place)
                for thing in samples.no_numbers(web[0]):
                    for a, b in ((thing, 0), (0, thing), (thing, thing), (web[0] - 1, thing), (thing, web[0] - 1)):
                        self.assertRaises(NoPlace, ask, web, a, b)


def off_by_kind(thing):
    """The thing with one of the things in it, or itself, made one of another kind, longer, shorter or another number."""
    if isinstance(thing, bool) or thing is None:
        return
    if isinstance(thing, int):
        yield from [bool(thing), float(thing), str(thing), None, [thing], (thing,), -1 - thing, thing + 1, 10 ** 29]
    elif isinstance(thing, str):
        yield from [thing.upper(), thing + "s", thing[:-1], "", " " + thing, None, 0, True, [thing], (thing,)]
        yield from [word for word in ("ways", "place", "tie", "apart") if word != thing]
    else:
        kind = type(thing)
        yield from [list(thing) if kind is tuple else tuple(thing), None, str(thing), {}, 0, True]
        yield from [thing[:-1], thing[1:], thing + kind([0]), thing + kind([None]), kind([0]) + thing, thing + thing]
        yield from [kind(reversed(thing)), kind([thing]), kind()]
        for k, part in enumerate(thing):
            for other in off_by_kind(part):
                yield thing[:k] + kind([other]) + thing[k + 1:]


def thinkable(web):
    """Tellings of the right kinds, right and wrong: each tie, each place, with each set."""
    for side in brute.subsets(range(web[0])):
        yield ("apart", side)
        for number in range(-1, len(web[1]) + 1):
            yield ("tie", number, side)
        for v in range(-1, web[0] + 1):
            yield ("place", v, side)


LOOKED_AT = [(2, ()), (2, ((0, 1),)), (2, ((0, 1),) * 2), (2, ((0, 1),) * 3), samples.line(3), samples.ring(3),
             (3, ((0, 1), (0, 1), (1, 2))), (3, ((0, 1), (0, 1), (1, 2), (1, 2))), (3, ((0, 2),)),
             samples.line(4), samples.ring(4), samples.ALIKE, (4, ((0, 3), (1, 2))), (4, ((0, 1), (0, 2), (1, 2), (2, 3))),
             samples.BOW, samples.STAR]


class LookTest(unittest.TestCase):
    def judge(self, ask, web, a, b, thing, right):
        before = repr(thing)
        wanted = any(same_kind(thing, one) for one in right)
        self.assertIs(ask(web, a, b, thing), wanted, (ask, web, a, b, thing))
        self.assertEqual(repr(thing), before)

    def both(self, web, a, b):
        yield shows_by_ties, brute.showings_by_ties(web, a, b)
        yield shows_by_places, brute.showings_by_places(web, a, b)

    def test_all_right_showings_and_all_pairs_of_ways(self):
        for web in SMALL[::4] + LOOKED_AT:
            for a, b in pairs(web):
                ways = brute.all_ways(web, a, b)
                for ask, right in self.both(web, a, b):
                    for thing in right + brute.showings_by_ties(web, a, b) + brute.showings_by_places(web, b, a):
                        self.judge(ask, web, a, b, thing, right)
                    for one in ways[:4]:
                        for other in ways:
                            self.judge(ask, web, a, b, ("ways", one, other), right)

    def test_what_can_be_thought_of(self):
        for web in LOOKED_AT + list(brute.small_webs(3, 3)) + list(brute.small_webs(4, 3))[::2]:
            for a, b in pairs(web):
                for ask, right in self.both(web, a, b):
                    for thing in thinkable(web):
                        self.judge(ask, web, a, b, thing, right)

    def test_showings_of_other_places(self):
        for web in LOOKED_AT:
            told = [thing for a, b in pairs(web) for thing in brute.showings_by_ties(web, a, b)[:4]]
            told += [thing for a, b in pairs(web) for thing in brute.showings_by_places(web, a, b)[:4]]
            for a, b in pairs(web):
                for ask, right in self.both(web, a, b):
                    for thing in told:
                        self.judge(ask, web, a, b, thing, right)

    def test_off_by_kind(self):
        for web in LOOKED_AT:
            for a, b in pairs(web):
                for ask, right in self.both(web, a, b):
                    sorts = {}
                    for thing in right:
                        sorts.setdefault(thing[0], []).append(thing)
                    for some in sorts.values():
                        for thing in some[:2]:
                            for other in off_by_kind(thing):
                                self.judge(ask, web, a, b, other, right)

    def test_whatever_it_is(self):
        for web in LOOKED_AT:
            a, b = 0, web[0] - 1
            for ask, right in self.both(web, a, b):
                for thing in samples.no_numbers(3) + [0, 1]:
                    self.judge(ask, web, a, b, thing, right)
                    for word in ("ways", "place", "tie", "apart", "part", "", None, True, 0):
                        for form in ((word,), (word, thing), (word, thing, [a]), (word, 0, thing), (word, thing, thing),
                                     (word, ([a, b], [0]), thing), (word, thing, ([a, b], [0])), (thing, 0, [a]),
                                     (word, 0, [thing]), (word, 0, [a, thing]), (word, [thing]), (word, 1, [a], thing),
                                     (word, ([a, thing, b], [0, 1]), ([a, b], [2])), (word, ([a, b], [thing]), thing)):
                            self.judge(ask, web, a, b, form, right)

    def test_ways_in_any_order(self):
        for web in (samples.ring(5), samples.BOW, samples.full(5), LADDER, samples.random_web(101, 16, 40)):
            for a, b in pairs(web):
                for tell, ask in ((by_ties, shows_by_ties), (by_places, shows_by_places)):
                    told = tell(web, a, b)
                    if told[0] == "ways":
                        self.assertIs(ask(web, a, b, (told[0], told[2], told[1])), True)
                        self.assertIs(ask(web, a, b, (told[0], told[1], told[1])), False)
                        self.assertIs(ask(web, b, a, told), False)
                        turned = ("ways", (told[1][0][::-1], told[1][1][::-1]), told[2])
                        self.assertIs(ask(web, a, b, turned), False)

    def test_ways_with_a_common_place_or_tie(self):
        told = ("ways", ([0, 2, 4], [1, 4]), ([0, 1, 2, 3, 4], [0, 2, 3, 5]))
        self.assertIs(shows_by_ties(samples.BOW, 0, 4, told), True)
        self.assertIs(shows_by_places(samples.BOW, 0, 4, told), False)
        self.assertIs(shows_by_places(samples.BOW, 0, 4, ("place", 2, [0, 1])), True)
        self.assertIs(shows_by_ties(samples.BOW, 0, 4, ("place", 2, [0, 1])), False)
        told = ("ways", ([0, 2, 4], [1, 4]), ([0, 2, 3, 4], [1, 3, 5]))
        self.assertIs(shows_by_ties(samples.BOW, 0, 4, told), False)
        self.assertIs(shows_by_places(samples.BOW, 0, 4, told), False)

    def test_a_tie_by_places_only_where_no_place_does(self):
        for thing in (("tie", 0, [0]), ("tie", 1, [0, 1])):
            self.assertIs(shows_by_ties(samples.line(3), 0, 2, thing), True)
            self.assertIs(shows_by_places(samples.line(3), 0, 2, thing), False)
        self.assertIs(shows_by_places(samples.line(3), 0, 1, ("tie", 0, [0])), True)
        self.assertIs(shows_by_places(samples.TWO_RINGS, 2, 3, ("tie", 3, [0, 1, 2])), True)
        self.assertIs(shows_by_places(samples.TWO_RINGS, 1, 3, ("tie", 3, [0, 1, 2])), False)

    def test_no_way_is_no_tie_and_no_place(self):
        web = (4, ((0, 1), (2, 3)))
        for ask in (shows_by_ties, shows_by_places):
            self.assertIs(ask(web, 0, 2, ("apart", [0, 1])), True)
            for thing in (("tie", 0, [0]), ("tie", 1, [0, 1]), ("place", 1, [0]), ("place", 3, [0, 1]),
                          ("apart", [0]), ("apart", [2, 3]), ("apart", [1, 0]), ("apart", [0, 1, 1])):
                self.assertIs(ask(web, 0, 2, thing), False)

    def test_truths_in_sides_and_numbers(self):
        web = samples.line(3)
        for thing in (("tie", True, [0, 1]), ("tie", False, [0]), ("tie", 0, [False]), ("tie", 1, [0, True]),
                      ("tie", 1, [False, 1])):
            self.assertIs(shows_by_ties(web, 0, 2, thing), False)
        for thing in (("place", True, [0]), ("place", 1, [False])):
            self.assertIs(shows_by_places(web, 0, 2, thing), False)
        for ask in (shows_by_ties, shows_by_places):
            self.assertIs(ask((3, ((0, 1),)), 0, 2, ("apart", [0, 1])), True)
            self.assertIs(ask((3, ((0, 1),)), 0, 2, ("apart", [0, True])), False)
            self.assertIs(ask((3, ((0, 1),)), 0, 2, ("apart", [False, 1])), False)

    def test_no_two_unlike_places_whatever_is_shown(self):
        for ask in (shows_by_ties, shows_by_places):
            for web in ((1, ()), (2, ((0, 1), (0, 1))), samples.line(16)):
                shown = [None, "", 0, [], (), ("apart", [0]), ("tie", 0, [0]), ("place", 1, [0]),
                         ("ways", ([0, 1], [0]), ([0, 1], [1])), ("ways", ([0], []), ([0], []))]
                for thing in shown:
                    for place in range(web[0]):
                        self.assertRaises(NoPlace, ask, web, place, place, thing)
                    for place in samples.no_numbers(web[0]):
                        self.assertRaises(NoPlace, ask, web, place, 0, thing)
                        self.assertRaises(NoPlace, ask, web, 0, place, thing)
                        self.assertRaises(NoPlace, ask, web, place, place, thing)

    def test_what_is_shown_may_change_afterwards(self):
        web = samples.ring(4)
        for tell, ask in ((by_ties, shows_by_ties), (by_places, shows_by_places)):
            told = tell(web, 0, 2)
            self.assertIs(ask(web, 0, 2, told), True)
            told[1][0].append(2)
            self.assertIs(ask(web, 0, 2, told), False)
            self.assertIs(ask(web, 0, 2, tell(web, 0, 2)), True)


if __name__ == "__main__":
    unittest.main()
