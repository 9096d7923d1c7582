"""What is right, reckoned in other and slower ways than the program does: by trying all, and by marks that spread."""

from itertools import combinations, combinations_with_replacement, product


def spread(places, ties):
    """Marks of the places: alike where a way joins them."""
    mark = {place: place for place in places}
    for a, b in ties:
        old, new = mark[a], mark[b]
        for place in mark:
            if mark[place] == old:
                mark[place] = new
    return mark


def joined(web, a, b):
    mark = spread(range(web[0]), web[1])
    return mark[a] == mark[b]


def sets_of(mark):
    groups = {}
    for place in sorted(mark):
        groups.setdefault(mark[place], []).append(place)
    return sorted(groups.values())


def parts(web):
    return sets_of(spread(range(web[0]), web[1]))


def part_with(sets, place):
    return [some for some in sets if place in some][0]


def web_without(web, number):
    return (web[0], web[1][:number] + web[1][number + 1:])


def side(web, number):
    a, b = web[1][number]
    part = part_with(parts(web_without(web, number)), a)
    return None if b in part else part


def cut_ties(web):
    return [number for number in range(len(web[1])) if side(web, number) is not None]


def parts_without(web, v):
    return sets_of(spread([p for p in range(web[0]) if p != v], [tie for tie in web[1] if v not in tie]))


def cut_places(web):
    """By the words of the document: two others that were in one part are in two then."""
    told = []
    for v in range(web[0]):
        left = parts_without(web, v)
        pairs = combinations([p for p in range(web[0]) if p != v], 2)
        if any(joined(web, x, y) and y not in part_with(left, x) for x, y in pairs):
            told.append(v)
    return told


def all_ways(web, a, b, both=True):
    """Every way from a to b, along the ties either way about, or only as they lead."""
    told = []

    def go(places, numbers):
        if places[-1] == b:
            told.append((list(places), list(numbers)))
            return
        for number, (x, y) in enumerate(web[1]):
            for start, end in ((x, y), (y, x)) if both else ((x, y),):
                if start == places[-1] and end not in places:
                    go(places + [end], numbers + [number])

    go([a], [])
    return told


def small_webs(n, most):
    """All webs of n places with at most so many ties."""
    pairs = list(combinations(range(n), 2))
    for count in range(most + 1):
        for ties in combinations_with_replacement(pairs, count):
            yield (n, ties)


def small_one_ways(n, most):
    pairs = sorted((a, b) for a, b in product(range(n), repeat=2) if a != b)
    for count in range(most + 1):
        for ties in combinations_with_replacement(pairs, count):
            yield (n, ties)


def subsets(places):
    places = list(places)
    for count in range(len(places) + 1):
        for some in combinations(places, count):
            yield list(some)


def pairs_of_ways(web, a, b, both_stand):
    ways = all_ways(web, a, b)
    return [("ways", one, other) for one in ways for other in ways if both_stand(one, other)]


def no_common_tie(one, other):
    return not set(one[1]) & set(other[1])


def no_common_place(one, other):
    return no_common_tie(one, other) and not set(one[0][1:-1]) & set(other[0][1:-1])


def parting_ties(web, a, b):
    """All of the sort "tie": a tie that all ways have."""
    ways = all_ways(web, a, b)
    return [("tie", number, part_with(parts(web_without(web, number)), a)) for number in range(len(web[1]))
            if ways and all(number in ties for places, ties in ways)]


def parting_places(web, a, b):
    ways = all_ways(web, a, b)
    return [("place", v, part_with(parts_without(web, v), a)) for v in range(web[0])
            if ways and v not in (a, b) and all(v in places for places, ties in ways)]


def aparts(web, a, b):
    return [] if all_ways(web, a, b) else [("apart", part_with(parts(web), a))]


def showings_by_ties(web, a, b):
    """Everything that shows how a and b are apart by ties."""
    return pairs_of_ways(web, a, b, no_common_tie) + parting_ties(web, a, b) + aparts(web, a, b)


def showings_by_places(web, a, b):
    places = parting_places(web, a, b)
    ties = [] if places else parting_ties(web, a, b)
    return pairs_of_ways(web, a, b, no_common_place) + places + ties + aparts(web, a, b)


def one_of_the_ways(web, a, b, thing):
    """For webs too great to try all ways: what a way is, word by word."""
    places, ties = thing
    if type(thing) is not tuple or type(places) is not list or type(ties) is not list:
        return False
    if places[0] != a or places[-1] != b or len(set(places)) != len(places) or len(ties) != len(places) - 1:
        return False
    hops = [tuple(sorted(hop)) for hop in zip(places, places[1:])]
    return all(type(x) is int for x in places + ties) and [web[1][number] for number in ties] == hops


def holds(web, a, b, thing, both_stand):
    """Whether a telling of the right form is so, in a web of any greatness; a tie by places isn't asked for a place."""
    if thing[0] == "ways":
        one, other = thing[1:]
        return one_of_the_ways(web, a, b, one) and one_of_the_ways(web, a, b, other) and both_stand(one, other)
    if thing[0] == "apart":
        return not joined(web, a, b) and thing[1] == part_with(parts(web), a)
    left = parts_without(web, thing[1]) if thing[0] == "place" else parts(web_without(web, thing[1]))
    side = part_with(left, a)
    return joined(web, a, b) and b not in side and thing[2] == side


def one_piece(web, a, b):
    return all(joined(web_without(web, number), a, b) for number in range(len(web[1]))) and joined(web, a, b)


def pieces(web):
    told = []
    for place in range(web[0]):
        mine = [some for some in told if one_piece(web, some[0], place)]
        if mine:
            mine[0].append(place)
        else:
            told.append([place])
    return told


def tree(web):
    sets = pieces(web)
    home = {place: k for k, some in enumerate(sets) for place in some}
    return (sets, [(number, home[web[1][number][0]], home[web[1][number][1]]) for number in cut_ties(web)])


def ends(web):
    sets, links = tree(web)
    counts = [sum(k in (i, j) for number, i, j in links) for k in range(len(sets))]
    return ([k for k, count in enumerate(counts) if count == 1], [k for k, count in enumerate(counts) if count == 0])


def rings(web):
    """Every ring, as the set of its ties' numbers: a tie, and a way round between its places."""
    told = set()
    for number, (a, b) in enumerate(web[1]):
        told |= {frozenset(ties + [number]) for places, ties in all_ways(web, a, b) if number not in ties}
    return told


def blocks_by_rings(web):
    """The blocks by the words of the document, as sets of ties' numbers."""
    mark = spread(range(len(web[1])), [(min(ring), number) for ring in rings(web) for number in ring])
    return sets_of(mark)


def places_of_ties(web, numbers):
    return sorted({place for number in numbers for place in web[1][number]})


def blocks_by_depths(web):
    """The blocks by a walk into the depth, as sets of places: for webs that have too many rings."""
    depth, told = {}, []

    def go(place, came, stack):
        depth[place] = low = len(depth)
        for number, tie in enumerate(web[1]):
            if place not in tie or number == came:
                continue
            other = tie[0] + tie[1] - place
            if other in depth:
                low = min(low, depth[other])
                continue
            mark = len(stack)
            stack.append(other)
            under = go(other, number, stack)
            low = min(low, under)
            if under >= depth[place]:
                told.append(sorted(stack[mark:] + [place]))
                stack[mark:] = []
        return low

    for place in range(web[0]):
        if place not in depth:
            go(place, None, [place])
    return sorted(told)


def inners(web, blocks):
    """By the words of the document, of the blocks that are told."""
    cuts = set(cut_places(web))
    return sorted(sorted(set(block) - cuts) for block in blocks if len(set(block) & cuts) == 1)


def proper_subsets(n):
    return [some for some in subsets(range(n)) if 0 < len(some) < n]


def leaving(web, some):
    inside, outside = set(some), set(range(web[0])) - set(some)
    return sum(a in inside and b in outside or a in outside and b in inside for a, b in web[1])


def need(web, falls, some):
    return max(0, falls + 1 - leaving(web, some))


def half_up(total):
    return -(-total // 2)


def all_families(n):
    """Every family of n places, its sets sorted: each place goes into a set that is there, a new one, or none."""
    rows = [[]]
    for place in range(n):
        later = []
        for row in rows:
            later.append(row)
            later.append(row + [[place]])
            for k in range(len(row)):
                later.append(row[:k] + [row[k] + [place]] + row[k + 1:])
        rows = later
    return [row for row in rows if all(len(some) < n for some in row)]


def greatest_bound(web, falls, families):
    needs = {tuple(some): need(web, falls, some) for some in proper_subsets(web[0])}
    return max(half_up(sum(needs[tuple(some)] for some in family)) for family in families)


def stands(web, falls):
    """Goes through each fall of so many ties or fewer."""
    numbers = range(len(web[1]))
    for count in range(falls + 1):
        for fallen in combinations(numbers, count):
            left = [web[1][number] for number in numbers if number not in fallen]
            if len(set(spread(range(web[0]), left).values())) > 1:
                return False
    return True


def web_with(web, added):
    return (web[0], tuple(sorted(web[1] + tuple(added))))


def lists_of_ties(n, count):
    return [list(ties) for ties in combinations_with_replacement(list(combinations(range(n), 2)), count)]


def fewer_do(web, count, does):
    """Whether some list of one tie fewer does: where none of them does, no shorter list does either."""
    return count > 0 and any(does(web_with(web, ties)) for ties in lists_of_ties(web[0], count - 1))


def is_added(n, thing):
    if type(thing) is not list or any(type(tie) is not tuple or len(tie) != 2 for tie in thing):
        return False
    right = list(combinations(range(n), 2))
    return all(type(place) is int for tie in thing for place in tie) and all(tie in right for tie in thing) and \
        all(thing[k] <= thing[k + 1] for k in range(len(thing) - 1))


def neighbours(web, some):
    return [v for v in range(web[0]) if v not in some and any(
        (min(v, w), max(v, w)) in web[1] for w in some)]


def place_need(web, some):
    near = neighbours(web, some)
    room = [v for v in range(web[0]) if v not in some and v not in near]
    return min(len(room), max(0, 2 - len(near)))


def place_stands(web):
    return len(parts(web)) == 1 and all(len(parts_without(web, v)) < 2 for v in range(web[0]))


def place_papers(n, families):
    return [("family", family) for family in families] + [("place", v) for v in range(n)]


def place_bound(web, paper):
    if paper[0] == "place":
        return max(0, len(parts_without(web, paper[1])) - 1)
    return half_up(sum(place_need(web, some) for some in paper[1]))


def reaches(one):
    """Whether a way leads from a place to another one: step by step through each place between."""
    reach = {(a, b) for a, b in one[1]} | {(v, v) for v in range(one[0])}
    for middle in range(one[0]):
        reach |= {(a, b) for a in range(one[0]) for b in range(one[0]) if (a, middle) in reach and (middle, b) in reach}
    return reach


def classes(one):
    reach = reaches(one)
    told = []
    for v in range(one[0]):
        some = [w for w in range(one[0]) if (v, w) in reach and (w, v) in reach]
        if some not in told:
            told.append(some)
    return sorted(told)


def firsts_and_lasts(one):
    told = ([], [], [])
    for number, some in enumerate(classes(one)):
        into = any(a not in some and b in some for a, b in one[1])
        out = any(a in some and b not in some for a, b in one[1])
        if not into or not out:
            told[2 if not into and not out else 1 if into else 0].append(number)
    return told


def ins(one, some):
    inside = set(some)
    return sum(b in inside for a, b in one[1] if a not in inside)


def outs(one, some):
    inside = set(some)
    return sum(a in inside for a, b in one[1] if b not in inside)


def one_need(one, falls, side, some):
    return max(0, falls + 1 - {"in": ins, "out": outs}[side](one, some))


def one_bound(one, falls, side, family):
    return sum(one_need(one, falls, side, some) for some in family)


def one_stands(one, falls):
    """Goes through each fall of so many ties or fewer; alike ties fall alike."""
    all_pairs = {(a, b) for a in range(one[0]) for b in range(one[0])}
    left = [one]
    if falls == 1:
        left += [web_without(one, number) for number in range(len(one[1]))
                 if number == 0 or one[1][number] != one[1][number - 1]]
    return all(reaches(made) == all_pairs for made in left)


def lists_of_leads(n, count):
    pairs = sorted((a, b) for a, b in product(range(n), repeat=2) if a != b)
    return [list(ties) for ties in combinations_with_replacement(pairs, count)]


def fewer_leads_do(one, falls, count):
    """As fewer_do: where no list of one tie fewer does, no shorter one does."""
    return count > 0 and any(one_stands(web_with(one, ties), falls) for ties in lists_of_leads(one[0], count - 1))


def are_leads(n, thing):
    if type(thing) is not list or any(type(tie) is not tuple or len(tie) != 2 for tie in thing):
        return False
    right = [(a, b) for a, b in product(range(n), repeat=2) if a != b]
    return all(type(place) is int for tie in thing for place in tie) and all(tie in right for tie in thing) and \
        all(thing[k] <= thing[k + 1] for k in range(len(thing) - 1))


def answers(web, offers):
    """All answers, each by its cost."""
    told = []
    for numbers in subsets(range(len(offers))):
        if stands(web_with(web, [offers[number][:2] for number in numbers]), 1):
            told.append((sum(offers[number][2] for number in numbers), numbers))
    return sorted(told)


def leaf_ways(tree, taken=(), left=()):
    """Each leaf of a tree with the offers taken and left on the way to it."""
    if tree[0] != "try":
        return [(tree, taken, left)]
    return leaf_ways(tree[2], taken + (tree[1],), left) + leaf_ways(tree[3], taken, left + (tree[1],))


def leaves_set(tie, some):
    return len({tie[0], tie[1]} & set(some)) == 1


def leaf_holds(web, offers, number, leaf, taken, left):
    """By the words of the document, of a leaf of the right form."""
    free = [k for k in range(len(offers)) if k not in taken + left]
    ties = list(web[1]) + [offers[k][:2] for k in taken]
    if leaf[0] == "barred":
        ties += [offers[k][:2] for k in free]
        return sum(leaves_set(tie, leaf[1]) for tie in ties) < 2
    low = sum(offers[k][2] for k in taken)
    for some, weight in leaf[1]:
        low += weight * max(0, 2 - sum(leaves_set(tie, some) for tie in ties))
    loads = [sum(weight for some, weight in leaf[1] if leaves_set(offers[k], some)) for k in free]
    return low >= number and all(load <= offers[k][2] for load, k in zip(loads, free))


def tree_holds(web, offers, number, tree):
    """Of a tree of the right form, but that an offer may be tried twice on one way."""
    for leaf, taken, left in leaf_ways(tree):
        if len(set(taken + left)) < len(taken + left) or not leaf_holds(web, offers, number, leaf, taken, left):
            return False
    return True


def pieces_by_cuts(web):
    """For webs too great to try each two places: what is joined without the ties whose fall parts."""
    cuts = cut_ties(web)
    left = [tie for number, tie in enumerate(web[1]) if number not in cuts]
    return sets_of(spread(range(web[0]), left))


class Ledger:
    """A kept web by the words of the document: rows by names, and all rows as they were ahead of each deed."""

    def __init__(self, web):
        self.n = web[0]
        self.rows = {number: tie for number, tie in enumerate(web[1])}
        self.ever = set(self.rows)
        self.past = []

    def web(self):
        return (self.n, tuple(sorted(self.rows.values())))

    def ties(self):
        return [(name,) + self.rows[name] for name in sorted(self.rows)]

    def pieces(self):
        return pieces_by_cuts(self.web())

    def cut_ties(self):
        told = []
        for name in sorted(self.rows):
            left = [tie for other, tie in self.rows.items() if other != name]
            a, b = self.rows[name]
            if not joined((self.n, tuple(left)), a, b):
                told.append(name)
        return told

    def put(self, a, b):
        before = self.pieces()
        self.past.append((dict(self.rows), set(self.ever)))
        name = min(set(range(len(self.ever) + 1)) - self.ever)
        self.rows[name] = (min(a, b), max(a, b))
        self.ever.add(name)
        gone = [some for some in before if some not in self.pieces()]
        return (name, gone)

    def drop(self, name):
        before = self.pieces()
        self.past.append((dict(self.rows), set(self.ever)))
        self.rows = {other: tie for other, tie in self.rows.items() if other != name}
        after = self.pieces()
        gone = [some for some in before if some not in after]
        return (gone[0], [some for some in after if some not in before]) if gone else (None, [])

    def back(self):
        self.rows, self.ever = self.past.pop()
        return True
