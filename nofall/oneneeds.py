"""Sets of places of one-way webs, the ties that lead into and out of them, and what they need by a side."""

from nofall.families import check_family
from nofall.needs import ties_that_leave


def ins(one, some):
    return len([tie for tie in ties_that_leave(one, some) if tie[1] in some])


def outs(one, some):
    return len([tie for tie in ties_that_leave(one, some) if tie[0] in some])


def ties_by(one, side, some):
    return ins(one, some) if side == "in" else outs(one, some)


def one_need(one, falls, side, some):
    return max(falls + 1 - ties_by(one, side, some), 0)


def one_bound(one, falls, side, family):
    check_family(one, family)
    return sum([one_need(one, falls, side, some) for some in family])
