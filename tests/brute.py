"""What is right, reckoned in other and slower ways than the program does: by trying all, and by marks that spread."""

from itertools import combinations, combinations_with_replacement, product


def spread(places, ties):
    """Marks of the places: alike where a way joins them."""
    mark = {place: place for place in places}
    for a, b in ties:
        old, new = mark[a], mark[b]
        for place in mark:
            if mark[place] == old:
                mark[place] = new
    return mark


def joined(web, a, b):
    mark = spread(range(web[0]), web[1])
    return mark[a] == mark[b]


def sets_of(mark):
    groups = {}
    for place in sorted(mark):
        groups.setdefault(mark[place], []).append(place)
    return sorted(groups.values())


def parts(web):
    return sets_of(spread(range(web[0]), web[1]))


def part_with(sets, place):
    return [some for some in sets if place in some][0]


def web_without(web, number):
    return (web[0], web[1][:number] + web[1][number + 1:])


def side(web, number):
    a, b = web[1][number]
    part = part_with(parts(web_without(web, number)), a)
    return None if b in part else part


def cut_ties(web):
    return [number for number in range(len(web[1])) if side(web, number) is not None]


def parts_without(web, v):
    return sets_of(spread([p for p in range(web[0]) if p != v], [tie for tie in web[1] if v not in tie]))


def cut_places(web):
    """By the words of the document: two others that were in one part are in two then."""
    told = []
    for v in range(web[0]):
        left = parts_without(web, v)
        pairs = combinations([p for p in range(web[0]) if p != v], 2)
        if any(joined(web, x, y) and y not in part_with(left, x) for x, y in pairs):
            told.append(v)
    return told


def all_ways(web, a, b, both=True):
    """Every way from a to b, along the ties either way about, or only as they lead."""
    told = []

    def go(places, numbers):
        if places[-1] == b:
            told.append((list(places), list(numbers)))
            return
        for number, (x, y) in enumerate(web[1]):
            for start, end in ((x, y), (y, x)) if both else ((x, y),):
                if start == places[-1] and end not in places:
                    go(places + [end], numbers + [number])

    go([a], [])
    return told


def small_webs(n, most):
    """All webs of n places with at most so many ties."""
    pairs = list(combinations(range(n), 2))
    for count in range(most + 1):
        for ties in combinations_with_replacement(pairs, count):
            yield (n, ties)


def small_one_ways(n, most):
    pairs = sorted((a, b) for a, b in product(range(n), repeat=2) if a != b)
    for count in range(most + 1):
        for ties in combinations_with_replacement(pairs, count):
            yield (n, ties)


def subsets(places):
    places = list(places)
    for count in range(len(places) + 1):
        for some in combinations(places, count):
            yield list(some)
