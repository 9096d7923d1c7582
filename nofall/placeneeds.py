"""What sets need to stand each place's fall, and the bounds of place papers."""

from nofall.errors import NoSet
from nofall.falls import parts_without
from nofall.families import half_made_whole, is_family
from nofall.needs import ties_that_leave
from nofall.wayslook import has_form
from nofall.webs import is_place


def neighbours(web, some):
    outward = ties_that_leave(web, some)
    return [v for v in range(web[0]) if v not in some and any([v in tie for tie in outward])]


def place_need(web, some):
    near = len(neighbours(web, some))
    room = web[0] - len(some) - near
    return min(room, max(2 - near, 0))


def is_place_paper(web, thing):
    if has_form(thing, "family", 2):
        return is_family(web[0], thing[1])
    return has_form(thing, "place", 2) and is_place(web, thing[1])


def place_bound(web, paper):
    if not is_place_paper(web, paper):
        raise NoSet("this is no place paper")
    if paper[0] == "family":
        return half_made_whole(sum([place_need(web, some) for some in paper[1]]))
    return max(len(parts_without(web, paper[1])) - 1, 0)
