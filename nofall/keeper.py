"""A web that is kept while ties come and go, each tie under a name of its own, each deed there to be taken back."""

from nofall.errors import NoBack, NoTie, NoWeb, TooMany
from nofall.pieces import tree
from nofall.webs import MOST_TIES, check_place, check_two_places, is_web, is_whole


def in_order(rows):
    # As a web has its ties: by their places, those that are alike by their names.
    return sorted(rows, key=lambda row: (row[1], row[2], row[0]))


def set_with(sets, place):
    return [some for some in sets if place in some][0]


def sets_within(sets, great):
    # Pieces lie within one another or apart, so one place tells which it is.
    return [some for some in sets if some[0] in great]


class Keeper:
    def __init__(self, web):
        if not is_web(web):
            raise NoWeb("a keeper is made of a web")
        self.size = web[0]
        self.rows = [(number, tie[0], tie[1]) for number, tie in enumerate(web[1])]
        self.fresh = len(self.rows)
        self.past = []

    def ties(self):
        return list(self.rows)

    def web(self):
        return (self.size, tuple([(row[1], row[2]) for row in in_order(self.rows)]))

    def names(self):
        # The names of the ties as the web numbers them.
        return [row[0] for row in in_order(self.rows)]

    def pieces(self):
        return tree(self.web())[0]

    def cut_ties(self):
        names = self.names()
        return sorted([names[link[0]] for link in tree(self.web())[1]])

    def of_one_piece(self, a, b):
        check_place(self.web(), a)
        check_place(self.web(), b)
        return b in set_with(self.pieces(), a)

    def become(self, rows, fresh):
        self.past.append((self.rows, self.fresh))
        self.rows = rows
        self.fresh = fresh

    def put(self, a, b):
        check_two_places(self.web(), a, b)
        if len(self.rows) >= MOST_TIES:
            raise TooMany("a web has no more ties than these")
        before = self.pieces()
        name = self.fresh
        self.become(self.rows + [(name, min(a, b), max(a, b))], name + 1)
        sets = sets_within(before, set_with(self.pieces(), a))
        return (name, sets if len(sets) > 1 else [])

    def drop(self, name):
        if not is_whole(name) or name not in self.names():
            raise NoTie("no tie has this name")
        row = [other for other in self.rows if other[0] == name][0]
        piece = set_with(self.pieces(), row[1])
        self.become([other for other in self.rows if other != row], self.fresh)
        sets = sets_within(self.pieces(), piece)
        return (piece, sets) if len(sets) > 1 else (None, [])

    def back(self):
        if not self.past:
            raise NoBack("there is no deed left to take back")
        was = self.past.pop()
        self.rows = was[0]
        self.fresh = was[1]
        return True
