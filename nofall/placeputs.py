"""The fewest ties that make a web stand each place's fall, with a place paper that shows that fewer won't do.

The least number of ties is the greatest place bound that there is. So while a web doesn't stand, some tie makes this
bound less by one; and some such tie always joins two sets of the needy family.
"""

from nofall.blocks import inners
from nofall.parts import parts
from nofall.placeneeds import place_bound
from nofall.webs import with_ties


def needy_family(web):
    # A part that has no end block is needy as a whole, where it is not all there is.
    whole = parts(web)
    family = inners(web)
    for part in whole:
        if len(whole) > 1 and not any([some[0] in part for some in family]):
            family = family + [part]
    return sorted(family)


def best_paper(web):
    papers = [("family", needy_family(web))] + [("place", v) for v in range(web[0])]
    return max(papers, key=lambda paper: place_bound(web, paper))


def greatest_bound(web):
    return place_bound(web, best_paper(web))


def ties_between(family):
    # Which place of a set is taken makes no odds: the blocks hang together alike.
    firsts = [some[0] for some in family]
    told = []
    for index, a in enumerate(firsts):
        told.extend([(a, b) for b in firsts[index + 1:]])
    return told


def helpful_tie(web, least):
    for tie in ties_between(needy_family(web)):
        if greatest_bound(with_ties(web, [tie])) < least:
            return tie
    return None


def place_puts(web):
    paper = best_paper(web)
    added = []
    for left in range(place_bound(web, paper), 0, -1):
        added.append(helpful_tie(with_ties(web, added), left))
    return (sorted(added), paper)
