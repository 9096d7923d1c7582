"""Webs and one-way webs as tuples (n, ties), and what counts as a place or a tie's number of one."""

from nofall.errors import NoPlace, NoTie, NoWeb

MOST_PLACES = 16
MOST_TIES = 40


def is_whole(thing):
    # True and False are ints to Python, but no whole numbers here.
    return isinstance(thing, int) and not isinstance(thing, bool)


def is_below(limit, thing):
    return is_whole(thing) and 0 <= thing < limit


def is_place(web, thing):
    return is_below(web[0], thing)


def is_tie_number(web, thing):
    return is_below(len(web[1]), thing)


def check_place(web, thing):
    if not is_place(web, thing):
        raise NoPlace("this is no place of the web")


def check_two_places(web, a, b):
    check_place(web, a)
    check_place(web, b)
    if a == b:
        raise NoPlace("one place twice is no two places")


def check_tie_number(web, thing):
    if not is_tie_number(web, thing):
        raise NoTie("this is no number of a tie of the web")


def is_tie(n, thing):
    if not isinstance(thing, tuple) or len(thing) != 2:
        return False
    return is_below(n, thing[0]) and is_below(n, thing[1]) and thing[0] != thing[1]


def makes_web(n, ties):
    if not is_whole(n) or not 1 <= n <= MOST_PLACES:
        return False
    if not isinstance(ties, (list, tuple)) or len(ties) > MOST_TIES:
        return False
    return all([is_tie(n, tie) for tie in ties])


def check_makes_web(n, ties):
    if not makes_web(n, ties):
        raise NoWeb("no web is made of this")


def web_of(n, ties):
    check_makes_web(n, ties)
    return (n, tuple(sorted([(min(tie), max(tie)) for tie in ties])))


def one_way_of(n, ties):
    check_makes_web(n, ties)
    return (n, tuple(sorted([(tie[0], tie[1]) for tie in ties])))


def is_one_way(thing):
    if not isinstance(thing, tuple) or len(thing) != 2:
        return False
    if not makes_web(thing[0], thing[1]) or not isinstance(thing[1], tuple):
        return False
    return sorted(thing[1]) == list(thing[1])


def is_web(thing):
    return is_one_way(thing) and all([tie[0] < tie[1] for tie in thing[1]])


def with_ties(web, added):
    # Ties put in are no ties of a web that is made: with them there may be more than forty.
    return (web[0], tuple(sorted(web[1] + tuple(added))))
