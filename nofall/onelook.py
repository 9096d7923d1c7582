"""Whether a one-way web stands so many falls, and whether added ties, a side and a family are a least answer for it."""

from nofall.families import is_family
from nofall.looker import are_leads
from nofall.needs import proper_sets
from nofall.oneneeds import one_bound, one_need
from nofall.webs import with_ties


def one_stands(one, falls):
    # What leads out of a set leads into the set of the others, so the one side is enough to look at.
    for some in proper_sets(one[0]):
        if one_need(one, falls, "in", some) > 0:
            return False
    return True


def is_side(thing):
    return isinstance(thing, str) and thing in ("in", "out")


def one_lets_by(one, falls, added, side, family):
    if not are_leads(one, added) or not is_side(side) or not is_family(one[0], family):
        return False
    return len(added) <= one_bound(one, falls, side, family) and one_stands(with_ties(one, added), falls)
