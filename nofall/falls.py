"""Which ties' and which places' falls part a web."""

from nofall.parts import part_of, parts
from nofall.webs import check_place, check_tie_number


def without_ties(web, numbers):
    return (web[0], tuple([tie for number, tie in enumerate(web[1]) if number not in numbers]))


def side_of(web, number):
    check_tie_number(web, number)
    tie = web[1][number]
    side = part_of(without_ties(web, [number]), tie[0])
    return None if tie[1] in side else side


def cut_ties(web):
    return [number for number in range(len(web[1])) if side_of(web, number) is not None]


def parts_without(web, v):
    check_place(web, v)
    left = (web[0], tuple([tie for tie in web[1] if v not in tie]))
    # Without its ties v is a part by itself: the one that has fallen.
    return [part for part in parts(left) if v not in part]


def cut_places(web):
    # A fall that parts nothing leaves as many parts as there were, or one fewer where the place was a part alone.
    before = len(parts(web))
    return [v for v in range(web[0]) if len(parts_without(web, v)) > before]
