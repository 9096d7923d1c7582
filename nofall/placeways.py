"""Two places apart by places: two ways that meet nowhere between, or a place or tie that all ways have, or no way."""

from nofall.falls import parts_without
from nofall.flows import arcs_of_two, two_along
from nofall.parts import part_of
from nofall.twoways import parting_tie
from nofall.webs import check_two_places


def arcs_of_places(web, a, b):
    # A place between is split in two, v to come to and v + n to go on from, with one arc between: so one way has it.
    n = web[0]
    arcs = []
    for tie in web[1]:
        for hop in (tie, (tie[1], tie[0])):
            arcs.append((hop[0] if hop[0] in (a, b) else hop[0] + n, hop[1]))
    return arcs + [(v, v + n) for v in range(n) if v not in (a, b)]


def joined_again(web, nodes, indexes):
    places = [node for node in nodes if node < web[0]]
    return (places, [index // 2 for index in indexes if index < 2 * len(web[1])])


def two_by_places(web, a, b):
    arcs = arcs_of_places(web, a, b)
    used = arcs_of_two(2 * web[0], arcs, a, b)
    if used is None:
        return None
    return [joined_again(web, nodes, indexes) for nodes, indexes in two_along(2 * web[0], arcs, used, a, b)]


def side_without(web, v, a):
    return [part for part in parts_without(web, v) if a in part][0]


def parting_place(web, a, b):
    for v in range(web[0]):
        if v not in (a, b):
            side = side_without(web, v, a)
            if b not in side:
                return ("place", v, side)
    return None


def by_places(web, a, b):
    check_two_places(web, a, b)
    side = part_of(web, a)
    if b not in side:
        return ("apart", side)
    found = two_by_places(web, a, b)
    if found is not None:
        return ("ways", found[0], found[1])
    shown = parting_place(web, a, b)
    return parting_tie(web, a, b) if shown is None else shown
