import unittest
from itertools import permutations

from nofall.errors import NoWeb
from nofall.webs import is_one_way, is_web, one_way_of, web_of

from tests import samples
from tests.samples import same_kind

MAKERS = (web_of, one_way_of)


def bad_numbers():
    return [0, -1, -16, 17, 18, 10 ** 29, -10 ** 29] + samples.things()


def bad_ties(n):
    """Things that are no tie among n places."""
    told = [[0, 1], [1, 0], (), (0,), (0, 1, 2), (0, 1, 1), (0, 0), (1, 1), (n, 0), (0, n), (-1, 0), (0, -1), (n, n + 1),
            ((0, 1),), ((0,), (1,)), {0: 1, 1: 0}, {0, 1}, "01", range(2)]
    for thing in samples.things():
        told += [(thing, 1), (1, thing), (0, thing), (thing, thing)]
        if thing not in ((0, 1), (1, 0)):
            told.append(thing)
    return told


class MakeTest(unittest.TestCase):
    def same(self, told, wanted):
        self.assertTrue(same_kind(told, wanted), (told, wanted))

    def test_web_of_plain(self):
        self.same(web_of(1, []), (1, ()))
        self.same(web_of(16, ()), (16, ()))
        self.same(web_of(3, [(1, 2), (0, 1)]), (3, ((0, 1), (1, 2))))
        self.same(web_of(3, [(2, 1), (1, 0)]), (3, ((0, 1), (1, 2))))
        self.same(web_of(3, ((2, 0), (0, 2), (1, 2), (2, 0))), (3, ((0, 2), (0, 2), (0, 2), (1, 2))))
        self.same(web_of(16, [(15, 2), (14, 15), (2, 10)]), (16, ((2, 10), (2, 15), (14, 15))))

    def test_one_way_of_plain(self):
        self.same(one_way_of(1, ()), (1, ()))
        self.same(one_way_of(16, []), (16, ()))
        self.same(one_way_of(3, [(2, 1), (0, 1), (1, 0)]), (3, ((0, 1), (1, 0), (2, 1))))
        self.same(one_way_of(3, ((2, 0), (0, 2), (2, 0))), (3, ((0, 2), (2, 0), (2, 0))))
        self.same(one_way_of(16, [(15, 2), (2, 15), (15, 10)]), (16, ((2, 15), (15, 2), (15, 10))))

    def test_every_order_and_either_way_about(self):
        ties = [(0, 1), (0, 1), (0, 3), (2, 3)]
        for row in permutations(ties):
            for mask in range(16):
                turned = [tie[::-1] if mask >> k & 1 else tie for k, tie in enumerate(row)]
                for given in (turned, tuple(turned)):
                    self.same(web_of(4, given), (4, tuple(ties)))
                    self.same(one_way_of(4, given), (4, tuple(sorted(turned))))

    def test_every_n(self):
        for n in range(1, 17):
            ties = samples.full(n)[1][:40]
            for given in (list(reversed(ties)), tuple(reversed(ties))):
                self.same(web_of(n, given), (n, ties))
                self.same(one_way_of(n, given), (n, ties))

    def test_from_none_to_forty_ties(self):
        for count in range(41):
            ties = samples.random_one_way(count, 16, count)[1]
            for given in (list(reversed(ties)), tuple(reversed(ties))):
                self.same(web_of(16, given), (16, tuple(sorted((min(tie), max(tie)) for tie in ties))))
                self.same(one_way_of(16, given), (16, ties))
            self.same(web_of(2, [(1, 0)] * count), (2, ((0, 1),) * count))
            self.same(one_way_of(2, [(1, 0)] * count), (2, ((1, 0),) * count))

    def test_more_than_forty_ties_are_refused(self):
        for make in MAKERS:
            for count in (41, 42, 80, 400):
                for n in (2, 16):
                    for given in ([(0, 1)] * count, ((0, 1),) * count):
                        self.assertRaises(NoWeb, make, n, given)

    def test_no_n(self):
        for make in MAKERS:
            for n in bad_numbers():
                for ties in ([], (), [(0, 1)]):
                    self.assertRaises(NoWeb, make, n, ties)

    def test_no_ties(self):
        for make in MAKERS:
            for thing in [0, 1, 2, -1, 10 ** 29] + samples.things():
                if not isinstance(thing, (list, tuple)) or thing:
                    self.assertRaises(NoWeb, make, 5, thing)
            self.assertRaises(NoWeb, make, 3, {(0, 1): (1, 2)})
            self.assertRaises(NoWeb, make, 3, {(0, 1)})
            self.assertRaises(NoWeb, make, 3, iter([(0, 1)]))

    def test_no_tie_wherever_it_stands(self):
        for make in MAKERS:
            for n in (3, 16):
                for thing in bad_ties(n):
                    for ties in ([thing], (thing,), [(0, 1), thing], [thing, (0, 1)], ((0, 2), thing, (0, 1))):
                        self.assertRaises(NoWeb, make, n, ties)

    def test_one_place_has_no_ties(self):
        for make in MAKERS:
            for tie in ((0, 0), (0, 1), (1, 0)):
                self.assertRaises(NoWeb, make, 1, [tie])

    def test_a_place_beyond_the_web(self):
        for make in MAKERS:
            for n in range(2, 17):
                self.assertRaises(NoWeb, make, n, [(0, n)])
                self.assertRaises(NoWeb, make, n, [(n, 0)])
                make(n, [(0, n - 1)])

    def test_what_is_handed_in_stays_and_is_copied(self):
        for make in MAKERS:
            ties = [(2, 1), (0, 1), (2, 1)]
            web = make(3, ties)
            self.assertEqual(ties, [(2, 1), (0, 1), (2, 1)])
            kept = (web[0], tuple(web[1]))
            ties[0] = (0, 2)
            ties.append((1, 0))
            self.same(web, kept)
            self.same(make(3, [(2, 1), (0, 1), (2, 1)]), kept)

    def test_what_is_told_may_be_handed_in_again(self):
        for n, ties in samples.shaped_webs() + samples.random_webs():
            self.same(web_of(n, ties), (n, ties))
            self.same(one_way_of(n, ties), (n, ties))
        for n, ties in samples.random_one_ways():
            self.same(one_way_of(n, ties), (n, ties))


class IsTest(unittest.TestCase):
    def verdicts(self, thing, web, one_way):
        self.assertIs(is_web(thing), web, thing)
        self.assertIs(is_one_way(thing), one_way, thing)

    def test_webs(self):
        for web in samples.shaped_webs() + samples.random_webs():
            self.verdicts(web, True, True)
        for n in range(1, 17):
            self.verdicts((n, ()), True, True)
        self.verdicts((2, ((0, 1),) * 40), True, True)

    def test_one_way_webs(self):
        for n, ties in samples.random_one_ways():
            self.verdicts((n, ties), all(a < b for a, b in ties), True)
        self.verdicts((2, ((1, 0),)), False, True)
        self.verdicts((3, ((0, 1), (2, 1))), False, True)
        self.verdicts((2, ((0, 1), (1, 0))), False, True)
        self.verdicts((2, ((1, 0),) * 40), False, True)

    def test_not_sorted(self):
        for ties in (((1, 2), (0, 1)), ((0, 2), (0, 1)), ((0, 1), (1, 2), (0, 2)), ((1, 2), (0, 1), (0, 2))):
            self.verdicts((3, ties), False, False)
        self.verdicts((3, ((1, 0), (0, 1))), False, False)
        self.verdicts((3, ((2, 1), (2, 0))), False, False)

    def test_lists_in_the_place_of_tuples(self):
        self.verdicts([2, ((0, 1),)], False, False)
        self.verdicts((2, [(0, 1)]), False, False)
        self.verdicts((2, []), False, False)
        self.verdicts((2, ([0, 1],)), False, False)
        self.verdicts([2, [[0, 1]]], False, False)

    def test_too_many_or_too_few_things(self):
        for thing in ((), (2,), (2, (), ()), (2, ((0, 1),), ()), (((0, 1),),), (2, (0, 1)), (2, ((0, 1),), None)):
            self.verdicts(thing, False, False)
        for count in (41, 42, 400):
            self.verdicts((2, ((0, 1),) * count), False, False)

    def test_no_n(self):
        for n in bad_numbers():
            self.verdicts((n, ()), False, False)
            self.verdicts((n, ((0, 1),)), False, False)
        for n in (1, 2):
            self.verdicts((n, ((0, 2),)), False, False)

    def test_no_ties(self):
        for thing in [0, 1, -1, 10 ** 29] + samples.things():
            if thing != ():
                self.verdicts((5, thing), False, False)

    def test_no_tie(self):
        for n in (3, 16):
            for thing in bad_ties(n):
                self.verdicts((n, (thing,)), False, False)
                self.verdicts((n, ((0, 1), thing)), False, False)
                self.verdicts((n, (thing, (1, 2))), False, False)

    def test_whatever_else(self):
        for thing in [0, 1, 2, -1, 16, 10 ** 29] + samples.things():
            self.verdicts(thing, False, False)

    def test_a_changed_list_is_judged_anew_and_left_as_it_is(self):
        ties = [(1, 2), (0, 1)]
        thing = (3, ties)
        self.verdicts(thing, False, False)
        self.assertEqual(ties, [(1, 2), (0, 1)])


if __name__ == "__main__":
    unittest.main()
