"""Whether a web stands so many falls of ties, and a set that shows where it doesn't."""

from nofall.needs import need, sets_below


def needy_set(web, falls):
    # The set of the other places has the same need, so those without the last place are all that must be looked at.
    for some in sets_below(web[0] - 1)[1:]:
        if need(web, falls, some) > 0:
            return some
    return None


def stands(web, falls):
    return needy_set(web, falls) is None
