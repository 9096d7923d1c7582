"""The fewest ties that make a web stand so many falls, with a family that shows that fewer won't do.

Each place is given loose ends: as few as serve each set, counted with the ties that leave it. Then two ends at a time
are made one tie, so that each set is still served. As long as ends are left, even in number, some two of them can be
made one for the first of them: so the ties are half of the ends, as many as the best family's bound.
"""

from nofall.families import best_family
from nofall.needs import leaving, proper_sets


def with_spares(web, falls, ends):
    # A set's spare is how many of its ends it could lose and still be served.
    return [(some, leaving(web, some) + len([v for v in ends if v in some]) - falls - 1)
            for some in proper_sets(web[0])]


def fewest_ends(web, falls):
    most = falls + 1
    ends = []
    for v in range(web[0]):
        ends.extend([v] * most)
    rows = with_spares(web, falls, ends)
    left = []
    for v in range(web[0]):
        lost = min([spare for some, spare in rows if v in some], default=most)
        lost = min(lost, most)
        rows = [(some, spare - lost if v in some else spare) for some, spare in rows]
        left.extend([v] * (most - lost))
    return left


def can_be_tied(rows, a, b):
    # A tie within a set takes two ends from it and leaves it nowhere.
    return a != b and all([spare >= 2 for some, spare in rows if a in some and b in some])


def tied(rows, a, b):
    return [(some, spare - 2 if a in some and b in some else spare) for some, spare in rows]


def tie_ends(rows, ends):
    added = []
    while ends:
        a = ends[0]
        b = [v for v in ends if can_be_tied(rows, a, v)][0]
        rows = tied(rows, a, b)
        added.append((a, b))
        ends = ends[1:]
        ends.remove(b)
    return added


def puts(web, falls):
    ends = fewest_ends(web, falls)
    if len(ends) % 2 == 1:
        ends = sorted(ends + [0])
    added = tie_ends(with_spares(web, falls, ends), ends)
    return (sorted(added), best_family(web, falls))
