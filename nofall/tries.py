"""Whether a tree of tries, whoever wrote it, shows that no answer of offers costs less than a number."""

from nofall.needs import is_proper_set, leaves, leaving, need
from nofall.offers import check_offers, with_offers
from nofall.wayslook import has_form
from nofall.webs import is_whole


def is_row(web, thing):
    if not isinstance(thing, tuple) or len(thing) != 2:
        return False
    return is_proper_set(web[0], thing[0]) and is_whole(thing[1]) and thing[1] >= 1


def are_rows(web, thing):
    return isinstance(thing, list) and all([is_row(web, row) for row in thing])


def weight_on(offer, rows):
    return sum([weight for some, weight in rows if leaves(offer, some)])


def weights_hold(made, offers, free, asked, rows):
    if not are_rows(made, rows):
        return False
    if any([weight_on(offers[number], rows) > offers[number][2] for number in free]):
        return False
    return sum([weight * need(made, 1, some) for some, weight in rows]) >= asked


def bars(made, offers, free, thing):
    return is_proper_set(made[0], thing) and leaving(with_offers(made, offers, free), thing) < 2


def try_holds(made, offers, free, asked, tree):
    tried = tree[1]
    if not is_whole(tried) or tried not in free:
        return False
    rest = [number for number in free if number != tried]
    if not holds(made, offers, rest, asked, tree[3]):
        return False
    return holds(with_offers(made, offers, [tried]), offers, rest, asked - offers[tried][2], tree[2])


def holds(made, offers, free, asked, tree):
    # The web is made with the taken offers; asked is what the number is above their cost. An offer that is tried is
    # free no more, so the tries on one way are no more than the offers, however deep the tree is.
    if has_form(tree, "try", 4):
        return try_holds(made, offers, free, asked, tree)
    if has_form(tree, "barred", 2):
        return bars(made, offers, free, tree[1])
    return has_form(tree, "weights", 2) and weights_hold(made, offers, free, asked, tree[1])


def tree_holds(web, offers, number, tree):
    check_offers(web, offers)
    return holds(web, offers, list(range(len(offers))), number, tree)
