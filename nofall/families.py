"""Families of sets that lie apart, their bounds, and the best of them."""

from nofall.errors import NoSet
from nofall.needs import is_proper_set, need, sets_below


def is_family(n, thing):
    if not isinstance(thing, list) or not all([is_proper_set(n, some) for some in thing]):
        return False
    places = []
    for some in thing:
        places.extend(some)
    return len(set(places)) == len(places)


def check_family(web, thing):
    if not is_family(web[0], thing):
        raise NoSet("this is no family of sets")


def half_made_whole(total):
    return (total + 1) // 2


def bound(web, falls, family):
    check_family(web, family)
    return half_made_whole(sum([need(web, falls, some) for some in family]))


def best_with(weights, best, top, rest):
    # What is best within rest and its top place beside: without a set that has the top, or with any such set.
    found = best[rest]
    sub = rest
    while sub >= 0:
        total = weights[sub + top] + best[rest - sub][0]
        if total > found[0]:
            found = (total, best[rest - sub][1] + [sub + top])
        sub = (sub - 1) & rest if sub > 0 else -1
    return found


def heaviest_apart(weights):
    # Sets are numbers here whose bits are their places, so that what is left beside a set is a difference.
    best = [(0, [])]
    top = 1
    while top < len(weights):
        for rest in range(top):
            best.append(best_with(weights, best, top, rest))
        top = 2 * top
    return best[-1][1]


def heaviest_family(n, weigh):
    sets = sets_below(n)
    weights = [0] + [weigh(some) for some in sets[1:-1]] + [0]
    return sorted([sets[number] for number in heaviest_apart(weights)])


def best_family(web, falls):
    return heaviest_family(web[0], lambda some: need(web, falls, some))
