"""A desk: a kept web that is asked and changed by rows of words, and answers each with a text."""

from nofall.errors import NoRow, TooMany
from nofall.falls import cut_places
from nofall.keeper import Keeper
from nofall.pieces import ends
from nofall.placeputs import place_puts
from nofall.puts import puts
from nofall.reader import is_written, read_web
from nofall.texts import show_web
from nofall.twoways import by_ties

# What stands behind each first word.
FORMS = {"put": ("place", "place"), "drop": ("name",), "back": (), "pieces": (), "cut": (), "places": (), "ends": (),
         "ways": ("place", "place"), "fewest": ("falls",), "web": ()}
FIGURES_OF = {"place": 2, "name": 4}
MOST_PLACES = 8


def has_form_of(kind, word):
    if kind == "falls":
        return word in ("1", "2", "places")
    return is_written(word, FIGURES_OF[kind])


def words_of(row):
    if not isinstance(row, str):
        raise NoRow("a row is a text")
    words = row.split(" ")
    kinds = FORMS.get(words[0])
    if kinds is None or len(kinds) != len(words) - 1:
        raise NoRow("a row is one of those that a desk knows")
    if not all([has_form_of(kind, word) for kind, word in zip(kinds, words[1:])]):
        raise NoRow("a number is written by its figures, and falls are 1, 2 or places")
    return words


def commas(numbers):
    return ",".join([str(number) for number in numbers])


def blanks(words):
    return " ".join(words) if words else "none"


def put_row(keeper, words):
    told = keeper.put(int(words[0]), int(words[1]))
    return " ".join([str(told[0])] + [commas(some) for some in told[1]])


def drop_row(keeper, words):
    return blanks([commas(some) for some in keeper.drop(int(words[0]))[1]])


def back_row(keeper, words):
    keeper.back()
    return "ok"


def pieces_row(keeper, words):
    return blanks([commas(some) for some in keeper.pieces()])


def cut_row(keeper, words):
    return blanks([str(name) for name in keeper.cut_ties()])


def places_row(keeper, words):
    return blanks([str(place) for place in cut_places(keeper.web())])


def ends_row(keeper, words):
    return " ".join([str(len(numbers)) for numbers in ends(keeper.web())])


def ways_row(keeper, words):
    names = keeper.names()
    told = by_ties(keeper.web(), int(words[0]), int(words[1]))
    if told[0] == "apart":
        return "apart"
    if told[0] == "tie":
        return " ".join(["tie", str(names[told[1]])])
    return " ".join(["ways"] + [commas([names[number] for number in way[1]]) for way in told[1:]])


def fewest_row(keeper, words):
    web = keeper.web()
    if web[0] > MOST_PLACES:
        raise TooMany("the fewest ties are told of webs with at most eight places")
    told = place_puts(web) if words[0] == "places" else puts(web, int(words[0]))
    return str(len(told[0]))


def web_row(keeper, words):
    return show_web(keeper.web())


ANSWERS = {"put": put_row, "drop": drop_row, "back": back_row, "pieces": pieces_row, "cut": cut_row,
           "places": places_row, "ends": ends_row, "ways": ways_row, "fewest": fewest_row, "web": web_row}


class Desk:
    def __init__(self, text):
        self.keeper = Keeper(read_web(text))

    def say(self, row):
        words = words_of(row)
        answer = ANSWERS[words[0]]
        return answer(self.keeper, words[1:])
