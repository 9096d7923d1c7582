"""The pieces that no one tie's fall parts, and the tree that they make."""

from nofall.falls import cut_ties, without_ties
from nofall.parts import parts


def pieces(web):
    return parts(without_ties(web, cut_ties(web)))


def homes_of(sets):
    homes = {}
    for number, some in enumerate(sets):
        for place in some:
            homes[place] = number
    return homes


def tree(web):
    sets = pieces(web)
    homes = homes_of(sets)
    links = [(number, homes[web[1][number][0]], homes[web[1][number][1]]) for number in cut_ties(web)]
    return (sets, links)


def with_links(counts, wanted):
    return [number for number, count in enumerate(counts) if count == wanted]


def ends(web):
    made = tree(web)
    counts = [0 for some in made[0]]
    for link in made[1]:
        counts[link[1]] += 1
        counts[link[2]] += 1
    return (with_links(counts, 1), with_links(counts, 0))
