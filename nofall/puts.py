"""The fewest ties that make a web stand so many falls, with a family that shows that fewer won't do.

Each place is given loose ends: as few as serve each set, counted with the ties that leave it. Then two ends at a time
are made one tie, so that each set is still served. As long as ends are left, even in number, some two of them can be
made one for the first of them: so the ties are half of the ends, as many as the best family's bound.
"""

from nofall.families import best_family
from nofall.needs import leaving, proper_sets


def with_spares(rows, ends, most):
    # A row is a set and how many ties it has; its spare is how many ends it could lose and still have the most asked.
    return [(some, count + len([v for v in ends if v in some]) - most) for some, count in rows]


def fewest_ends(n, rows, most):
    ends = []
    for v in range(n):
        ends.extend([v] * most)
    spares = with_spares(rows, ends, most)
    left = []
    for v in range(n):
        lost = min([most] + [spare for some, spare in spares if v in some])
        spares = [(some, spare - lost if v in some else spare) for some, spare in spares]
        left.extend([v] * (most - lost))
    return left


def can_be_tied(spares, a, b, taken):
    # A tie within a set leaves it nowhere: so it has both ends less, and nothing for them.
    return a != b and all([spare >= taken for some, spare in spares if a in some and b in some])


def tied(spares, a, b, taken):
    return [(some, spare - taken if a in some and b in some else spare) for some, spare in spares]


def tie_ends(spares, ends):
    added = []
    while ends:
        a = ends[0]
        b = [v for v in ends if can_be_tied(spares, a, v, 2)][0]
        spares = tied(spares, a, b, 2)
        added.append((a, b))
        ends = ends[1:]
        ends.remove(b)
    return added


def puts(web, falls):
    rows = [(some, leaving(web, some)) for some in proper_sets(web[0])]
    ends = fewest_ends(web[0], rows, falls + 1)
    if len(ends) % 2 == 1:
        ends = sorted(ends + [0])
    added = tie_ends(with_spares(rows, ends, falls + 1), ends)
    return (sorted(added), best_family(web, falls))
