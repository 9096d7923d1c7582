"""The classes of a one-way web, between whose places ways lead there and back, and which of them come first or last."""

from nofall.parts import search, steps_of_one_way
from nofall.pieces import homes_of


def classes(one):
    steps = steps_of_one_way(one)
    reached = [search(steps, place) for place in range(one[0])]
    told = []
    for place in range(one[0]):
        mine = [other for other in range(one[0]) if other in reached[place] and place in reached[other]]
        # Each class is told once: where its least place is come to.
        if mine[0] == place:
            told.append(mine)
    return told


def firsts_and_lasts(one):
    sets = classes(one)
    homes = homes_of(sets)
    led_into = {}
    led_out_of = {}
    for tie in one[1]:
        if homes[tie[0]] != homes[tie[1]]:
            led_out_of[homes[tie[0]]] = True
            led_into[homes[tie[1]]] = True
    numbers = list(range(len(sets)))
    firsts = [number for number in numbers if number not in led_into and number in led_out_of]
    lasts = [number for number in numbers if number in led_into and number not in led_out_of]
    alone = [number for number in numbers if number not in led_into and number not in led_out_of]
    return (firsts, lasts, alone)
