"""Whether a web stands each place's fall, and whether added ties and a place paper are a least answer for it."""

from nofall.falls import parts_without
from nofall.looker import are_added
from nofall.parts import parts
from nofall.placeneeds import is_place_paper, place_bound
from nofall.webs import with_ties


def place_stands(web):
    # Behind the fall of the one place that is there no part is left, and that is no parting.
    return len(parts(web)) == 1 and all([len(parts_without(web, v)) <= 1 for v in range(web[0])])


def place_lets_by(web, added, paper):
    if not are_added(web, added) or not is_place_paper(web, paper):
        return False
    return len(added) <= place_bound(web, paper) and place_stands(with_ties(web, added))
