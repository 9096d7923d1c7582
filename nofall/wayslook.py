"""Whether a thing, whatever it is, shows how two places are apart."""

from nofall.falls import without_ties
from nofall.parts import is_way, part_of
from nofall.placeways import parting_place, side_without
from nofall.webs import check_two_places, is_place, is_tie_number, is_whole


def has_form(thing, word, count):
    if not isinstance(thing, tuple) or len(thing) != count:
        return False
    return isinstance(thing[0], str) and thing[0] == word


def is_same_set(thing, some):
    # A truth equals a number to Python, so each thing is looked at by its kind first.
    return isinstance(thing, list) and all([is_whole(place) for place in thing]) and thing == some


def share(one, other):
    return any([number in other for number in one])


def is_two_ways(web, a, b, thing):
    if not has_form(thing, "ways", 3):
        return False
    if not is_way(web, a, b, thing[1]) or not is_way(web, a, b, thing[2]):
        return False
    return not share(thing[1][1], thing[2][1])


def meet_nowhere(one, other):
    return not share(one[0][1:-1], other[0][1:-1])


def is_apart(web, a, b, thing):
    side = part_of(web, a)
    return has_form(thing, "apart", 2) and b not in side and is_same_set(thing[1], side)


def is_parting_tie(web, a, b, thing):
    if not has_form(thing, "tie", 3) or not is_tie_number(web, thing[1]) or b not in part_of(web, a):
        return False
    side = part_of(without_ties(web, [thing[1]]), a)
    return b not in side and is_same_set(thing[2], side)


def is_parting_place(web, a, b, thing):
    if not has_form(thing, "place", 3) or not is_place(web, thing[1]) or b not in part_of(web, a):
        return False
    if thing[1] in (a, b):
        return False
    side = side_without(web, thing[1], a)
    return b not in side and is_same_set(thing[2], side)


def shows_by_ties(web, a, b, thing):
    check_two_places(web, a, b)
    if is_two_ways(web, a, b, thing):
        return True
    return is_parting_tie(web, a, b, thing) or is_apart(web, a, b, thing)


def shows_by_places(web, a, b, thing):
    check_two_places(web, a, b)
    if is_two_ways(web, a, b, thing):
        return meet_nowhere(thing[1], thing[2])
    if is_parting_place(web, a, b, thing) or is_apart(web, a, b, thing):
        return True
    return is_parting_tie(web, a, b, thing) and parting_place(web, a, b) is None
