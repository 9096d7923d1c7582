import unittest
from random import Random

from nofall.desk import Desk
from nofall.errors import FallError, NoBack, NoPlace, NoRow, NoText, NoTie, NoWeb, TooMany
from nofall.keeper import Keeper
from nofall.placelook import place_stands
from nofall.placeputs import place_puts
from nofall.puts import puts
from nofall.reader import read_web
from nofall.texts import show_web

from tests import brute, samples

WEBS = samples.shaped_webs() + [samples.random_web(seed, 1 + seed % 16, (seed * 5) % 41 if seed % 16 else 0)
                                for seed in range(32)]
ASKING = ("web", "pieces", "cut", "places", "ends")


def with_blanks(words):
    return " ".join(words) if words else "none"


def sets_text(sets):
    return with_blanks([",".join(map(str, some)) for some in sets])


def right_answer(ledger, row):
    """What a row is answered with, where just one answer is right; a deed is done in the ledger too."""
    words = row.split(" ")
    if words[0] == "put":
        name, sets = ledger.put(int(words[1]), int(words[2]))
        return " ".join([str(name)] + [",".join(map(str, some)) for some in sets])
    if words[0] == "drop":
        return sets_text(ledger.drop(int(words[1]))[1])
    if words[0] == "back":
        return "ok" if ledger.back() else ""
    if words[0] == "web":
        return "\n".join(["places %d" % ledger.n] + ["tie %d %d" % tie for tie in ledger.web()[1]])
    return {"pieces": lambda: sets_text(ledger.pieces()),
            "cut": lambda: with_blanks([str(name) for name in ledger.cut_ties()]),
            "places": lambda: with_blanks([str(v) for v in brute.cut_places(ledger.web())]),
            "ends": lambda: " ".join([str(len(numbers)) for numbers in ends(ledger.web())])}[words[0]]()


def ends(web):
    sets = brute.pieces_by_cuts(web)
    home = {place: k for k, some in enumerate(sets) for place in some}
    links = [home[v] for number in brute.cut_ties(web) for v in web[1][number]]
    counts = [links.count(k) for k in range(len(sets))]
    return ([k for k in counts if k == 1], [k for k in counts if k == 0])


class DeskTest(unittest.TestCase):
    def says(self, desk, row, answer):
        told = desk.say(row)
        self.assertIs(type(told), str)
        self.assertEqual(told, answer, row)

    def all_of(self, desk):
        return [desk.say(row) for row in ASKING]

    def refused(self, desk, refusal, row):
        before = self.all_of(desk)
        self.assertRaises(refusal, desk.say, row)
        self.assertEqual(self.all_of(desk), before, row)


class RowsTest(DeskTest):
    def test_each_row(self):
        desk = Desk("places 5\ntie 1 0\ntie 1 2\ntie 3 2")
        for row, answer in (("pieces", "0 1 2 3 4"), ("cut", "0 1 2"), ("places", "1 2"), ("ends", "2 1"),
                            ("put 2 0", "3 0 1 2"), ("pieces", "0,1,2 3 4"), ("cut", "2"), ("put 4 3", "4"),
                            ("put 4 0", "5 0,1,2 3 4"), ("cut", "none"), ("places", "none"), ("ends", "0 1"),
                            ("drop 3", "none"), ("drop 0", "0 1 2 3 4"),
                            ("back", "ok"), ("back", "ok"), ("back", "ok"), ("ways 0 3", "tie 2"), ("ways 3 0", "tie 2"),
                            ("fewest 1", "1"), ("fewest 2", "3"), ("fewest places", "1"),
                            ("web", "places 5\ntie 0 1\ntie 0 2\ntie 1 2\ntie 2 3\ntie 3 4"), ("back", "ok"),
                            ("ways 0 4", "apart"), ("drop 2", "none"), ("ends", "0 3"), ("back", "ok"), ("back", "ok"),
                            ("web", "places 5\ntie 0 1\ntie 1 2\ntie 2 3")):
            self.says(desk, row, answer)
        self.assertRaises(NoBack, desk.say, "back")

    def test_one_place_alone(self):
        desk = Desk("places 1")
        for row, answer in (("pieces", "0"), ("cut", "none"), ("places", "none"), ("ends", "0 1"), ("web", "places 1"),
                            ("fewest 1", "0"), ("fewest 2", "0"), ("fewest places", "0")):
            self.says(desk, row, answer)

    def test_as_the_web_is(self):
        for web in WEBS:
            desk, ledger = Desk(show_web(web)), brute.Ledger(web)
            for row in ASKING:
                self.says(desk, row, right_answer(ledger, row))

    def test_long_rows_of_deeds(self):
        chance = Random(11)
        for web in WEBS:
            desk, ledger = Desk(show_web(web)), brute.Ledger(web)
            for step in range(25):
                row = self.deed(chance, ledger)
                if row:
                    self.says(desk, row, right_answer(ledger, row))
                asked = chance.choice(ASKING)
                self.says(desk, asked, right_answer(ledger, asked))
            self.assertEqual(read_web(desk.say("web")), ledger.web())

    def deed(self, chance, ledger):
        choice = chance.randrange(10)
        if choice < 2 and ledger.past:
            return "back"
        if choice < 6 and ledger.rows:
            return "drop %d" % chance.choice(sorted(ledger.rows))
        if ledger.n > 1 and len(ledger.rows) < 40:
            return "put %d %d" % tuple(chance.sample(range(ledger.n), 2))
        return None

    def test_ways(self):
        for web in samples.shaped_webs()[:14] + [samples.random_web(seed, 6, 4 + seed % 5) for seed in range(12)]:
            desk, ledger, chance = Desk(show_web(web)), brute.Ledger(web), Random(2)
            for step in range(6):
                row = self.deed(chance, ledger)
                if row:
                    self.says(desk, row, right_answer(ledger, row))
            for a in range(min(web[0], 6)):
                for b in range(min(web[0], 6)):
                    if a != b:
                        self.look_at_ways(ledger, a, b, desk.say("ways %d %d" % (a, b)))
                        self.assertEqual(desk.say("ways %d %d" % (a, b)), desk.say("ways %d %d" % (a, b)))

    def look_at_ways(self, ledger, a, b, told):
        words = told.split(" ")
        if not brute.joined(ledger.web(), a, b):
            self.assertEqual(told, "apart")
        elif words[0] == "tie":
            left = [tie for name, tie in ledger.rows.items() if str(name) != words[1]]
            self.assertEqual(len(words), 2)
            self.assertIn(int(words[1]), ledger.rows)
            self.assertFalse(brute.joined((ledger.n, tuple(left)), a, b))
        else:
            self.assertEqual((words[0], len(words)), ("ways", 3))
            one, other = [[int(name) for name in word.split(",")] for word in words[1:]]
            self.assertFalse(set(one) & set(other))
            for names in (one, other):
                self.assertTrue(self.leads_on(ledger, a, b, names), (told, a, b))

    def leads_on(self, ledger, a, b, names):
        """Whether the ties of these names lead from a to b, through each place once."""
        places = [a]
        for name in names:
            tie = ledger.rows[name]
            if places[-1] not in tie:
                return False
            places.append(sum(tie) - places[-1])
        return places[-1] == b and len(set(places)) == len(places)

    def test_ways_tell_names(self):
        desk = Desk("places 3\ntie 0 2")
        self.says(desk, "put 1 0", "1")
        self.says(desk, "ways 0 2", "tie 0")
        self.says(desk, "ways 1 2", "tie 1")
        self.says(desk, "drop 0", "none")
        self.says(desk, "put 2 0", "2")
        self.says(desk, "ways 0 1", "tie 1")
        self.says(desk, "cut", "1 2")
        self.says(desk, "put 0 1", "3 0 1")
        self.assertIn(desk.say("ways 0 1"), ("ways 1 3", "ways 3 1"))

    def test_fewest(self):
        for web in samples.shaped_small_webs() + samples.random_small_webs(28):
            desk = Desk(show_web(web))
            for falls in (1, 2):
                self.says(desk, "fewest %d" % falls, str(len(puts(web, falls)[0])))
            self.says(desk, "fewest places", str(len(place_puts(web)[0])))

    def test_fewest_behind_deeds(self):
        desk = Desk("places 8")
        self.says(desk, "fewest 1", "8")
        for v in range(7):
            desk.say("put %d %d" % (v, v + 1))
        self.says(desk, "fewest 1", "1")
        self.says(desk, "fewest 2", "5")
        desk.say("put 0 7")
        self.says(desk, "fewest 1", "0")
        self.says(desk, "fewest places", "0")
        self.assertTrue(place_stands(read_web(desk.say("web"))))

    def test_names_of_more_than_one_figure(self):
        desk = Desk("places 2\n" + "\n".join(["tie 0 1"] * 10))
        for name in range(10, 130):
            self.says(desk, "put 0 1", str(name))
            self.says(desk, "drop %d" % (name - 10), "none")
        self.says(desk, "drop 125", "none")
        self.assertEqual([row[0] for row in desk.keeper.ties()], [120, 121, 122, 123, 124, 126, 127, 128, 129])

    def test_names_of_four_figures(self):
        desk = Desk("places 2")
        for name in range(1001):
            self.says(desk, "put 1 0", str(name))
            self.says(desk, "cut", str(name))
            if name < 1000:
                self.says(desk, "drop %d" % name, "none")
        self.says(desk, "drop 1000", "none")
        self.refused(desk, NoTie, "drop 1000")

    def test_two_desks_by_turns(self):
        chance = Random(6)
        for web in (samples.TWO_RINGS, samples.SCATTERED):
            pairs = [(Desk(show_web(web)), brute.Ledger(web)) for step in range(2)]
            for step in range(40):
                desk, ledger = pairs[step % 2]
                row = self.deed(chance, ledger)
                self.says(desk, row, right_answer(ledger, row))
                for desk, ledger in pairs:
                    for asked in ASKING:
                        self.says(desk, asked, right_answer(ledger, asked))

    def test_against_a_keeper(self):
        chance = Random(9)
        for web in WEBS[::3]:
            desk, keeper, ledger = Desk(show_web(web)), Keeper(web), brute.Ledger(web)
            for step in range(12):
                row = self.deed(chance, ledger)
                if row:
                    words = row.split(" ")
                    numbers = [int(word) for word in words[1:]]
                    {"put": keeper.put, "drop": keeper.drop, "back": keeper.back}[words[0]](*numbers)
                    self.says(desk, row, right_answer(ledger, row))
                self.says(desk, "pieces", sets_text(keeper.pieces()))
                self.says(desk, "cut", with_blanks([str(name) for name in keeper.cut_ties()]))


class RefusalsTest(DeskTest):
    def test_no_text(self):
        for text, line in (("", 0), ("x", 0), ("places 2\n", 1), ("places 2\nlead 0 1", 1), ("places 2\ntie 0 01", 1),
                           ("places 2\ntie 0 1\n\ntie 0 1", 2), (None, 0), (2, 0), ((2, ()), 0), (b"places 2", 0)):
            with self.assertRaises(NoText) as caught:
                Desk(text)
            self.assertEqual(caught.exception.line, line)
        for thing in samples.things():
            self.assertRaises(NoText, Desk, thing)

    def test_no_web(self):
        for text in ("places 0", "places 17", "places 99", "places 2\ntie 0 2", "places 2\ntie 1 1",
                     "\n".join(["places 2"] + ["tie 0 1"] * 41)):
            self.assertRaises(NoWeb, Desk, text)

    def test_no_row(self):
        desk = Desk("places 4\ntie 0 1\ntie 1 2\ntie 0 2\ntie 2 3")
        rows = ["", " ", "x", "Put 0 1", "PUT 0 1", "puts 0 1", "pu 0 1", "tie 0 1", "places 4", "0 1", "none", "ok",
                "help", "put", "put 0", "put 0 1 2", "put 0 1 ", " put 0 1", "put  0 1", "put 0  1", "put 0,1", "put\t0 1",
                "drop", "drop 0 1", "drop ", " drop 0", "drop  0", "drop 0 ", "back 1", "back ", " back", "backs",
                "pieces 0", "pieces ", " pieces", "piece", "cut 0", "cut ", " cut", "cuts", "places 0", "places ",
                " places", "place", "ends 0", "ends ", " ends", "end", "ways", "ways 0", "ways 0 1 2", "ways 0 1 ",
                " ways 0 1", "ways  0 1", "ways 0  1", "way 0 1", "fewest", "fewest 1 2", "fewest 1 ", " fewest 1",
                "fewest  1", "fewest places 1", "web 0", "web ", " web", "webs", "web\n", "\nweb", "put 0 1\n", "back\n",
                "put 0\n1", "web\nweb", "pieces\tcut", "back back", "fewest places places"]
        for row in rows:
            self.refused(desk, NoRow, row)

    def test_no_number_of_the_right_form(self):
        desk = Desk("places 4\ntie 0 1\ntie 1 2\ntie 0 2\ntie 2 3")
        words = ["00", "01", "000", "+0", "-0", "-1", "1.", "1.0", "x", "a", "one", "0x1", "1_0", "1e0", "0,1", ",", "~",
                 "None", "True", "", "1\n", "\t1", "\u0661", "\u00b2", "1" * 400]
        for word in words + ["100", "123", "1000"]:
            for row in ("put 0 " + word, "put " + word + " 1", "ways 0 " + word, "ways " + word + " 1"):
                self.refused(desk, NoRow, row)
        for word in words + ["10000", "12345", "0001", "99999"]:
            self.refused(desk, NoRow, "drop " + word)

    def test_no_falls(self):
        for text in ("places 4", "places 9", "places 16"):
            desk = Desk(text)
            for word in ("0", "3", "01", "1.0", "place", "Places", "PLACES", "ties", "one", "-1", "+1", "12", "", "2 "):
                self.refused(desk, NoRow, "fewest " + word)

    def test_what_is_no_text(self):
        desk = Desk("places 2\ntie 0 1")
        for thing in samples.things() + [0, 1, ["web"], ("web",), {"web": 1}, b"web", ["put", "0", "1"], 10 ** 29]:
            self.refused(desk, NoRow, thing)
        for row in ("x" * 4000, " " * 4000, "web " * 1000, "put 0 1 " * 500, "\n" * 4000):
            self.refused(desk, NoRow, row)

    def test_no_place(self):
        desk = Desk("places 4\ntie 0 1")
        for row in ("put 0 4", "put 4 0", "put 0 0", "put 3 3", "put 99 98", "put 10 0", "ways 0 4", "ways 4 0",
                    "ways 1 1", "ways 16 99"):
            self.refused(desk, NoPlace, row)

    def test_no_tie(self):
        desk = Desk("places 4\ntie 0 1\ntie 1 2")
        for row in ("drop 2", "drop 3", "drop 10", "drop 123", "drop 9999"):
            self.refused(desk, NoTie, row)
        self.says(desk, "drop 1", "none")
        self.refused(desk, NoTie, "drop 1")
        self.says(desk, "put 0 2", "2")
        self.says(desk, "back", "ok")
        self.refused(desk, NoTie, "drop 2")

    def test_no_back(self):
        desk = Desk("places 4\ntie 0 1")
        self.refused(desk, NoBack, "back")
        self.assertRaises(NoPlace, desk.say, "put 0 0")
        self.assertRaises(NoRow, desk.say, "put 0")
        self.refused(desk, NoBack, "back")
        self.says(desk, "put 0 1", "1 0 1")
        self.assertRaises(FallError, desk.say, "drop 9")
        self.says(desk, "back", "ok")
        self.refused(desk, NoBack, "back")

    def test_too_many_ties(self):
        desk = Desk("\n".join(["places 3"] + ["tie 0 1"] * 39))
        self.says(desk, "put 1 2", "39")
        self.refused(desk, TooMany, "put 1 2")
        self.refused(desk, NoPlace, "put 1 1")
        self.refused(desk, NoPlace, "put 1 3")
        self.refused(desk, NoRow, "put 1 x")
        self.says(desk, "drop 0", "none")
        self.says(desk, "put 1 2", "40 0,1 2")

    def test_fewest_of_more_than_eight_places(self):
        for n in range(9, 17):
            desk = Desk(show_web(samples.ring(n)))
            for row in ("fewest 1", "fewest 2", "fewest places"):
                self.refused(desk, TooMany, row)
        for row in ("fewest 1", "fewest 2", "fewest places"):
            Desk("places 8").say(row)


if __name__ == "__main__":
    unittest.main()
