"""Offered ties, which of them make a web stand one fall, and the cheapest that do, with a tree of tries for it."""

from nofall.errors import NoOffers
from nofall.needs import is_rising, leaves, leaving, sets_below
from nofall.stands import needy_set, stands
from nofall.webs import is_tie, is_whole, with_ties

MOST_OFFERS = 8


def is_offer(web, thing):
    if not isinstance(thing, tuple) or len(thing) != 3:
        return False
    return is_tie(web[0], thing[:2]) and is_whole(thing[2]) and thing[2] >= 0


def check_offers(web, thing):
    fits = isinstance(thing, (list, tuple)) and len(thing) <= MOST_OFFERS
    if not fits or not all([is_offer(web, offer) for offer in thing]):
        raise NoOffers("these are no offers")


def with_offers(web, offers, numbers):
    return with_ties(web, [(min(offers[number][:2]), max(offers[number][:2])) for number in numbers])


def cost_of(offers, numbers):
    return sum([offers[number][2] for number in numbers])


def is_answer(web, offers, numbers):
    check_offers(web, offers)
    return is_rising(len(offers), numbers) and stands(with_offers(web, offers, numbers), 1)


def cheapest_answer(web, offers):
    for numbers in sorted(sets_below(len(offers)), key=lambda some: cost_of(offers, some)):
        if stands(with_offers(web, offers, numbers), 1):
            return numbers
    return None


def tree_for(made, offers, free, asked):
    # The web is made with the taken offers; asked is what the least cost is above theirs. As long as it is above, they
    # are no answer, so some set is needy: of the free offers only one that leaves it is worth a try.
    if asked <= 0:
        return ("weights", [])
    some = needy_set(made, 1)
    useful = [number for number in free if leaves(offers[number], some)]
    if leaving(made, some) + len(useful) < 2:
        return ("barred", some)
    tried = useful[0]
    rest = [number for number in free if number != tried]
    taken = tree_for(with_offers(made, offers, [tried]), offers, rest, asked - offers[tried][2])
    return ("try", tried, taken, tree_for(made, offers, rest, asked))


def cheapest(web, offers):
    check_offers(web, offers)
    every = list(range(len(offers)))
    numbers = cheapest_answer(web, offers)
    if numbers is None:
        return ("barred", needy_set(with_offers(web, offers, every), 1))
    cost = cost_of(offers, numbers)
    return ("cheapest", cost, numbers, tree_for(web, offers, every, cost))
