"""The fewest ties that make a one-way web stand so many falls, with a side and a family that show that fewer won't do.

Each place is given loose heads, where a tie will lead in, and loose tails, where one will lead out: of each as few as
serve each set. Neither are more than the greatest bound of a family, by the one side or by the other; of those that are
fewer, more are given to a place. Then each tail is made one tie with a head, so that each set is still served: for each
tail there is some such head.
"""

from nofall.families import heaviest_family
from nofall.needs import proper_sets
from nofall.oneneeds import one_bound, one_need, ties_by
from nofall.puts import can_be_tied, fewest_ends, tied, with_spares


def best_by(one, falls, side):
    return heaviest_family(one[0], lambda some: one_need(one, falls, side, some))


def best_paper(one, falls):
    papers = [(side, best_by(one, falls, side)) for side in ("in", "out")]
    return max(papers, key=lambda paper: one_bound(one, falls, paper[0], paper[1]))


def so_many_ends(n, rows, most, count):
    ends = fewest_ends(n, rows, most)
    return [0] * (count - len(ends)) + ends


def tie_tails(spares, tails, heads):
    left = list(heads)
    added = []
    for a in tails:
        b = [v for v in left if can_be_tied(spares, a, v, 1)][0]
        spares = tied(spares, a, b, 1)
        added.append((a, b))
        left.remove(b)
    return added


def one_puts(one, falls):
    paper = best_paper(one, falls)
    count = one_bound(one, falls, paper[0], paper[1])
    most = falls + 1
    led_in = [(some, ties_by(one, "in", some)) for some in proper_sets(one[0])]
    led_out = [(some, ties_by(one, "out", some)) for some in proper_sets(one[0])]
    heads = so_many_ends(one[0], led_in, most, count)
    tails = so_many_ends(one[0], led_out, most, count)
    spares = with_spares(led_in, heads, most) + with_spares(led_out, tails, most)
    return (sorted(tie_tails(spares, tails, heads)), paper[0], paper[1])
