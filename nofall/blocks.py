"""The blocks that no one place's fall parts, and the inners of those that hang on one place."""

from nofall.falls import cut_places, parts_without
from nofall.parts import hops, parts


def ties_into(web, v, part):
    return [number for number, tie in enumerate(web[1]) if v in tie and (tie[0] in part or tie[1] in part)]


def ties_side_by_side(web):
    # Two ties of one place are in some ring just where a way joins their other places without it. What is of one
    # block is joined by such pairs from place to place.
    pairs = []
    for v in range(web[0]):
        for part in parts_without(web, v):
            pairs.extend(hops(ties_into(web, v, part)))
    return pairs


def places_of(web, numbers):
    return [v for v in range(web[0]) if any([v in web[1][number] for number in numbers])]


def blocks(web):
    # The ties stand as places here: the parts of such a web are the blocks.
    groups = parts((len(web[1]), ties_side_by_side(web)))
    return sorted([places_of(web, numbers) for numbers in groups])


def inners(web):
    cuts = cut_places(web)
    told = []
    for block in blocks(web):
        inner = [v for v in block if v not in cuts]
        if len(inner) == len(block) - 1:
            told.append(inner)
    return sorted(told)
