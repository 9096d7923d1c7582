"""Places exchanged by an order: in webs, sets, families, added ties and offers."""

from nofall.errors import NoOrder
from nofall.webs import is_below


def check_order(thing):
    fits = isinstance(thing, list) and all([is_below(len(thing), place) for place in thing])
    if not fits or len(set(thing)) != len(thing):
        raise NoOrder("this is no order of places")


def check_order_of(web, thing):
    check_order(thing)
    if len(thing) != web[0]:
        raise NoOrder("this is no order of the web's places")


def led_ties(ties, order):
    return sorted([(order[tie[0]], order[tie[1]]) for tie in ties])


def rising_ties(ties, order):
    return sorted([(min(tie), max(tie)) for tie in led_ties(ties, order)])


def exchanged_web(web, order):
    check_order_of(web, order)
    return (web[0], tuple(rising_ties(web[1], order)))


def exchanged_one_way(one, order):
    check_order_of(one, order)
    return (one[0], tuple(led_ties(one[1], order)))


def exchanged_set(some, order):
    check_order(order)
    return sorted([order[place] for place in some])


def exchanged_family(family, order):
    check_order(order)
    return [exchanged_set(some, order) for some in family]


def exchanged_ties(added, order):
    check_order(order)
    return rising_ties(added, order)


def exchanged_offers(offers, order):
    check_order(order)
    return [(order[offer[0]], order[offer[1]], offer[2]) for offer in offers]
