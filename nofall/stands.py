"""Whether a web stands so many falls of ties."""

from nofall.needs import need, sets_below


def stands(web, falls):
    # The set of the other places has the same need, so those without the last place are all that must be looked at.
    for some in sets_below(web[0] - 1)[1:]:
        if need(web, falls, some) > 0:
            return False
    return True
