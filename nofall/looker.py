"""Whether added ties and a family, whoever wrote them, are a least answer for ties' falls."""

from nofall.families import bound, is_family
from nofall.stands import stands
from nofall.webs import is_tie, with_ties


def are_leads(web, thing):
    if not isinstance(thing, list) or not all([is_tie(web[0], tie) for tie in thing]):
        return False
    return sorted(thing) == thing


def are_added(web, thing):
    return are_leads(web, thing) and all([tie[0] < tie[1] for tie in thing])


def lets_by(web, falls, added, family):
    if not are_added(web, added) or not is_family(web[0], family):
        return False
    return len(added) <= bound(web, falls, family) and stands(with_ties(web, added), falls)
