"""Texts read as webs and one-way webs."""

from nofall.errors import NoText
from nofall.webs import one_way_of, web_of

FIGURES = "0123456789"
MOST_FIGURES = 2


def is_written(word, most):
    # Python reads other signs as figures too, so each sign is looked up.
    if not 1 <= len(word) <= most or not all([sign in FIGURES for sign in word]):
        return False
    return word == "0" or word[0] != "0"


def numbers_of(line, word, count):
    words = line.split(" ")
    if words[0] != word or len(words) != count + 1:
        return None
    if not all([is_written(number, MOST_FIGURES) for number in words[1:]]):
        return None
    return tuple([int(number) for number in words[1:]])


def rows_of(text, word):
    if not isinstance(text, str):
        raise NoText(0)
    rows = []
    for number, line in enumerate(text.split("\n")):
        row = numbers_of(line, word, 2) if number > 0 else numbers_of(line, "places", 1)
        if row is None:
            raise NoText(number)
        rows.append(row)
    return rows


def read_web(text):
    rows = rows_of(text, "tie")
    return web_of(rows[0][0], rows[1:])


def read_one_way(text):
    rows = rows_of(text, "lead")
    return one_way_of(rows[0][0], rows[1:])
