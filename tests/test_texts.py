import unittest
from random import Random

from nofall.errors import NoText, NoWeb
from nofall.reader import read_one_way, read_web
from nofall.texts import show_one_way, show_web

from tests import samples
from tests.samples import asked_twice, same_kind

WEBS = samples.shaped_webs() + samples.random_webs() + [samples.random_web(seed, 16, seed) for seed in range(41)]
ONES = samples.shaped_small_one_ways() + samples.random_one_ways() + [
    samples.random_one_way(seed, 2 + seed % 15, seed) for seed in range(41)]
READERS = ((read_web, "tie"), (read_one_way, "lead"))
NO_WORDS = ["", "00", "01", "07", "010", "100", "123", "+1", "-1", "-0", "1.", "1.0", ".1", "1e1", "0x1", "1_0", "x", "a",
            "ten", "1,", ",", "1a", "a1", "\t1", "1\t", "'1'", "(1", "~", "!", "1/", "1:", "/", ":", "\u0661", "\u00b2",
            "\uff11", "1\r", "None", "True", "9999", "1" * 400]


class ShowTest(unittest.TestCase):
    def test_plain(self):
        self.assertEqual(show_web((1, ())), "places 1")
        self.assertEqual(show_web((16, ((0, 1), (0, 1), (2, 15)))), "places 16\ntie 0 1\ntie 0 1\ntie 2 15")
        self.assertEqual(show_one_way((1, ())), "places 1")
        self.assertEqual(show_one_way((11, ((0, 1), (1, 0), (10, 9)))), "places 11\nlead 0 1\nlead 1 0\nlead 10 9")

    def test_line_by_line(self):
        for show, things, word in ((show_web, WEBS, "tie"), (show_one_way, ONES, "lead")):
            for n, ties in things:
                text = asked_twice(self, show, (n, ties))
                self.assertIs(type(text), str)
                self.assertEqual(text.split("\n"), ["places " + str(n)] + ["%s %d %d" % (word, a, b) for a, b in ties])

    def test_what_is_written_reads_back(self):
        for web in WEBS:
            self.assertTrue(same_kind(asked_twice(self, read_web, show_web(web)), web), web)
        for one in ONES:
            self.assertTrue(same_kind(asked_twice(self, read_one_way, show_one_way(one)), one), one)


class ReadTest(unittest.TestCase):
    def refused(self, read, text, line):
        with self.assertRaises(NoText) as caught:
            read(text)
        self.assertTrue(same_kind(caught.exception.line, line), (text, line, caught.exception.line))

    def test_plain(self):
        self.assertEqual(read_web("places 3\ntie 2 1\ntie 1 0"), (3, ((0, 1), (1, 2))))
        self.assertEqual(read_one_way("places 3\nlead 2 1\nlead 1 0"), (3, ((1, 0), (2, 1))))
        self.assertEqual(read_web("places 16"), (16, ()))
        self.assertEqual(read_one_way("places 10\nlead 9 0\nlead 9 0"), (10, ((9, 0), (9, 0))))

    def test_in_any_order_and_either_way_about(self):
        chance = Random(4)
        for web in WEBS:
            lines = ["tie %d %d" % tuple(chance.sample(tie, 2)) for tie in chance.sample(web[1], len(web[1]))]
            self.assertTrue(same_kind(read_web("\n".join(["places %d" % web[0]] + lines)), web))
        for one in ONES:
            lines = ["lead %d %d" % tie for tie in chance.sample(one[1], len(one[1]))]
            self.assertTrue(same_kind(read_one_way("\n".join(["places %d" % one[0]] + lines)), one))

    def test_no_text(self):
        for read, word in READERS:
            for thing in [0, 1, -1, 10 ** 29, (2, ()), ["places 2"], ("places 2",), {"places": 2}, b"places 2"]:
                self.refused(read, thing, 0)
            for thing in samples.long_things() + [x for x in samples.things() if not isinstance(x, str)]:
                self.refused(read, thing, 0)

    def test_no_places_line(self):
        for read, word in READERS:
            texts = ["", " ", "\n", "places", "places ", " places 2", "places  2", "places 2 ", "places 2 2", "place 2",
                     "Places 2", "PLACES 2", "places2", "2", "2 places", "places\t2", "places,2", "tie 0 1", "lead 0 1",
                     word + " 0 1\nplaces 2", "\nplaces 2", "web 2", "places 2\t", "\tplaces 2", "places 2\r"]
            for text in texts + ["places " + number for number in NO_WORDS]:
                self.refused(read, text, 0)
                self.refused(read, text + "\n" + word + " 0 1", 0)

    def test_no_tie_line(self):
        for read, word in READERS:
            other = "lead" if word == "tie" else "tie"
            lines = ["", " ", word, word + " ", word + " 0", word + " 0 ", word + " 0 1 ", " " + word + " 0 1",
                     word + "  0 1", word + " 0  1", word + " 0 1 1", word + " 0,1", word + "0 1", word + "s 0 1",
                     word.upper() + " 0 1", word.title() + " 0 1", word[:-1] + " 0 1", other + " 0 1", "places 3",
                     "places 0 1", "0 1", "x", word + "\t0\t1", word + " 0 1\r", "put 0 1", word + " " + word + " 1"]
            lines += [word + " 0 " + number for number in NO_WORDS] + [word + " " + number + " 1" for number in NO_WORDS]
            for line in lines:
                for count in (0, 1, 39, 40):
                    text = "\n".join(["places 3"] + [word + " 0 1"] * count)
                    self.refused(read, text + "\n" + line, count + 1)
                    self.refused(read, text + "\n" + line + "\n" + word + " 1 2", count + 1)

    def test_the_first_line_of_several(self):
        for read, word in READERS:
            self.refused(read, "places 3\n" + word + " 0 1\nx\n" + word + " 0 1\ny", 2)
            self.refused(read, "x\ny", 0)
            self.refused(read, "places 3\n\n\n", 1)
            self.refused(read, "places 3\n" + word + " 0 1\n", 2)
            self.refused(read, "places 3\n", 1)

    def test_no_web(self):
        for read, word in READERS:
            texts = ["places 0", "places 17", "places 18", "places 99", "places 1\n" + word + " 0 1",
                     "places 1\n" + word + " 0 0", "places 3\n" + word + " 0 3", "places 3\n" + word + " 3 0",
                     "places 3\n" + word + " 1 1", "places 3\n" + word + " 0 1\n" + word + " 2 2",
                     "places 16\n" + word + " 0 16", "places 16\n" + word + " 99 0",
                     "\n".join(["places 3"] + [word + " 0 1"] * 41), "\n".join(["places 3"] + [word + " 0 1"] * 400)]
            for text in texts:
                self.assertRaises(NoWeb, read, text)
            self.assertEqual(len(read("\n".join(["places 3"] + [word + " 0 1"] * 40))[1]), 40)

    def test_no_text_goes_ahead_of_no_web(self):
        for read, word in READERS:
            self.refused(read, "places 0\nx", 1)
            self.refused(read, "places 17\n" + word + " 0 0\n", 2)
            self.refused(read, "places 3\n" + word + " 0 9\n" + word + " 00 1", 2)
            self.refused(read, "\n".join(["places 3"] + [word + " 0 1"] * 41 + ["x"]), 42)

    def test_texts_of_four_thousand_signs(self):
        for read, word in READERS:
            self.refused(read, "x" * 4000, 0)
            self.refused(read, "\n" * 4000, 0)
            self.refused(read, "places 3\n" + " " * 3990, 1)
            self.refused(read, "places " + "1" * 3990, 0)


if __name__ == "__main__":
    unittest.main()
