"""Sets of places, the ties that leave them, and what they need to stand so many falls."""

from nofall.errors import NoSet
from nofall.parts import hops
from nofall.webs import is_below


def is_rising(limit, thing):
    if not isinstance(thing, list) or not all([is_below(limit, number) for number in thing]):
        return False
    return all([hop[0] < hop[1] for hop in hops(thing)])


def is_proper_set(n, thing):
    return is_rising(n, thing) and 1 <= len(thing) < n


def check_set(web, thing):
    if not is_proper_set(web[0], thing):
        raise NoSet("this is no set of one place or more, and not of all")


def sets_below(count):
    # A set's number in this list has the bit of each of its places, so sets can be reckoned with by their numbers.
    told = [[]]
    for place in range(count):
        told = told + [some + [place] for some in told]
    return told


def proper_sets(n):
    return sets_below(n)[1:-1]


def leaves(tie, some):
    return (tie[0] in some) != (tie[1] in some)


def ties_that_leave(web, some):
    check_set(web, some)
    return [tie for tie in web[1] if leaves(tie, some)]


def leaving(web, some):
    return len(ties_that_leave(web, some))


def need(web, falls, some):
    return max(falls + 1 - leaving(web, some), 0)
