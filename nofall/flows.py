"""Two ways at once along arcs, each of which is gone by once: the second may send the first another way."""

from nofall.parts import search, trace


def steps_along(count, arcs, used):
    steps = [[] for node in range(count)]
    for index in used:
        steps[arcs[index][0]].append((arcs[index][1], index))
    return steps


def steps_left(count, arcs, used):
    # An arc in use may be gone back along: that takes it out of use again.
    steps = [[] for node in range(count)]
    for index, arc in enumerate(arcs):
        if index in used:
            steps[arc[1]].append((arc[0], index))
        else:
            steps[arc[0]].append((arc[1], index))
    return steps


def arcs_of_two(count, arcs, start, goal):
    used = []
    for turn in range(2):
        found = trace(search(steps_left(count, arcs, used), start), goal)
        if found is None:
            return None
        used = [index for index in range(len(arcs)) if (index in used) != (index in found[1])]
    return used


def two_along(count, arcs, used, start, goal):
    # What is in use leaves each other node as often as it comes there, so that a second way is left by the first.
    one = trace(search(steps_along(count, arcs, used), start), goal)
    rest = [index for index in used if index not in one[1]]
    other = trace(search(steps_along(count, arcs, rest), start), goal)
    return [one, other]
