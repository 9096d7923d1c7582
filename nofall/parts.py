"""Ways from place to place, and the parts of a web that they join."""

from nofall.webs import check_place, is_place, is_tie_number


def steps_of_web(web):
    steps = [[] for place in range(web[0])]
    for number, tie in enumerate(web[1]):
        steps[tie[0]].append((tie[1], number))
        steps[tie[1]].append((tie[0], number))
    return steps


def steps_of_one_way(one):
    steps = [[] for place in range(one[0])]
    for number, tie in enumerate(one[1]):
        steps[tie[0]].append((tie[1], number))
    return steps


def search(steps, start):
    # Each place that is come to keeps the step by which it was first reached, so that a way can be traced back.
    came = {start: None}
    row = [start]
    while row:
        later = []
        for place in row:
            for step in steps[place]:
                if step[0] not in came:
                    came[step[0]] = (place, step[1])
                    later.append(step[0])
        row = later
    return came


def trace(came, goal):
    if goal not in came:
        return None
    places = [goal]
    ties = []
    step = came[goal]
    while step is not None:
        places.append(step[0])
        ties.append(step[1])
        step = came[step[0]]
    return (list(reversed(places)), list(reversed(ties)))


def part_of(web, place):
    return sorted(search(steps_of_web(web), place))


def parts(web):
    told = []
    seen = {}
    for place in range(web[0]):
        if place not in seen:
            part = part_of(web, place)
            told.append(part)
            for member in part:
                seen[member] = True
    return told


def way(web, a, b):
    check_place(web, a)
    check_place(web, b)
    return trace(search(steps_of_web(web), a), b)


def one_way(one, a, b):
    check_place(one, a)
    check_place(one, b)
    return trace(search(steps_of_one_way(one), a), b)


def is_row_of_places(web, a, b, thing):
    if not isinstance(thing, list) or not thing:
        return False
    if not all([is_place(web, place) for place in thing]):
        return False
    return thing[0] == a and thing[-1] == b and len(set(thing)) == len(thing)


def has_form_of_way(web, a, b, thing):
    if not isinstance(thing, tuple) or len(thing) != 2:
        return False
    if not is_row_of_places(web, a, b, thing[0]) or not isinstance(thing[1], list):
        return False
    return len(thing[1]) == len(thing[0]) - 1 and all([is_tie_number(web, number) for number in thing[1]])


def hops(places):
    return list(zip(places[:-1], places[1:]))


def is_way(web, a, b, thing):
    check_place(web, a)
    check_place(web, b)
    if not has_form_of_way(web, a, b, thing):
        return False
    return all([web[1][number] == (min(hop), max(hop)) for hop, number in zip(hops(thing[0]), thing[1])])


def leads(one, a, b, thing):
    check_place(one, a)
    check_place(one, b)
    if not has_form_of_way(one, a, b, thing):
        return False
    return all([one[1][number] == hop for hop, number in zip(hops(thing[0]), thing[1])])
