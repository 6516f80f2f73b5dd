"""Cuts: places among which one end is and the other is not, with no road out; they show that there is no way."""

from onceways.ways import check_ends, reached
from onceways.webs import beside, is_place


# A right cut has with the first end all that is reached from it, so the least one has nothing else.
def cut(web, one, other):
    check_ends(web, one, other)
    links = [beside(web, place) for place in range(web[0])]
    places = sorted(reached(links, one, []))
    return None if other in places else places


def is_cut(web, one, other, places):
    check_ends(web, one, other)
    if places != sorted(set(places)) or not all([is_place(web, place) for place in places]):
        return False
    if one not in places or other in places:
        return False
    return all([(a in places) == (b in places) for a, b in web[1]])
