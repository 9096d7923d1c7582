"""Two places apart by ties: two ways without a common tie, or a tie that all ways have, or no way."""

from nofall.falls import without_ties
from nofall.flows import arcs_of_two, two_along
from nofall.parts import part_of, way
from nofall.webs import check_two_places


def arcs_of_ties(web):
    # The tie of a number has the arcs of twice that number and one more, so the arc the other way is found by a bit.
    arcs = []
    for tie in web[1]:
        arcs.append((tie[0], tie[1]))
        arcs.append((tie[1], tie[0]))
    return arcs


def two_by_ties(web, a, b):
    arcs = arcs_of_ties(web)
    used = arcs_of_two(web[0], arcs, a, b)
    if used is None:
        return None
    # A tie gone by both ways about is left out: each of the two goes on there as the other one did.
    needed = [index for index in used if (index ^ 1) not in used]
    return [(places, [index // 2 for index in indexes]) for places, indexes in two_along(web[0], arcs, needed, a, b)]


def parting_tie(web, a, b):
    for number in way(web, a, b)[1]:
        side = part_of(without_ties(web, [number]), a)
        if b not in side:
            return ("tie", number, side)
    return None


def by_ties(web, a, b):
    check_two_places(web, a, b)
    side = part_of(web, a)
    if b not in side:
        return ("apart", side)
    found = two_by_ties(web, a, b)
    if found is None:
        return parting_tie(web, a, b)
    return ("ways", found[0], found[1])
