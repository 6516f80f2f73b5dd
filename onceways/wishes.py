"""Wishes: which ways are meant, told by tuples; whether a wish has a way, and the least table of the ways of one."""

from onceways.errors import NoTable, NoWay
from onceways.joined import check_size
from onceways.parts import JOINING, folded, leaves_of
from onceways.sieves import binds, sieved, tables_of_leaves
from onceways.ways import any_way_of, check_ends
from onceways.webs import is_place

BARE = ("closed", "shy", "all")
PAIRED = ("open", "long")
OF_ROADS = ("with", "off")
OF_PLACES = ("over", "past")
GREATEST = 9999
DEEPEST = 8


def is_small(thing):
    return isinstance(thing, int) and not isinstance(thing, bool) and 0 <= thing <= GREATEST


def is_leaf(word, rest):
    if word in BARE:
        return not rest
    if word in PAIRED:
        return len(rest) == 2 and is_small(rest[0]) and is_small(rest[1])
    if word not in OF_ROADS + OF_PLACES or len(rest) != 1 or not isinstance(rest[0], tuple):
        return False
    return all([is_small(thing) for thing in rest[0]])


# The depth is looked at on the way down, for a thing in which one part stands twice, and so on down, may have far too
# many parts to go through.
def is_wish(thing):
    pending = [(thing, 1)]
    while pending:
        part, depth = pending.pop()
        if depth > DEEPEST or not isinstance(part, tuple) or not part or not isinstance(part[0], str):
            return False
        if part[0] in JOINING and len(part) == 3:
            pending.extend([(within, depth + 1) for within in part[1:]])
        elif not is_leaf(part[0], part[1:]):
            return False
    return True


def is_of_web(web, leaf):
    if leaf[0] in OF_ROADS:
        return all([number < len(web[1]) for number in leaf[1]])
    return leaf[0] not in OF_PLACES or all([is_place(web, place) for place in leaf[1]])


def check_good(web, wish):
    leaves = leaves_of(wish)
    for leaf in leaves:
        if leaf[0] == "open":
            check_ends(web, leaf[1], leaf[2])
    if not all([is_of_web(web, leaf) for leaf in leaves]):
        raise NoWay("a wish names roads and places of the web alone")


# A closed way has as many roads as places, an open one has one less and is told from its lesser end on.
def has_open(web, leaf, way, roads):
    return len(roads) < len(way) and [way[0], way[-1]] == sorted(leaf[1:])


def has_closed(web, leaf, way, roads):
    return len(roads) == len(way)


def has_with(web, leaf, way, roads):
    return all([road in roads for road in leaf[1]])


def has_off(web, leaf, way, roads):
    return not any([road in roads for road in leaf[1]])


def has_over(web, leaf, way, roads):
    return all([place in way for place in leaf[1]])


def has_past(web, leaf, way, roads):
    return not any([place in way for place in leaf[1]])


def has_long(web, leaf, way, roads):
    return leaf[1] <= len(roads) <= leaf[2]


def has_shy(web, leaf, way, roads):
    joining = [number for number, road in enumerate(web[1]) if road[0] in way and road[1] in way]
    return joining == roads


def has_all(web, leaf, way, roads):
    return len(way) == web[0]


LEAVES = {"open": has_open, "closed": has_closed, "with": has_with, "off": has_off, "over": has_over,
          "past": has_past, "long": has_long, "shy": has_shy, "all": has_all}


def joined_has(word, first, second):
    if word == "and":
        return first and second
    return first or second if word == "or" else first and not second


def wished(web, wish, roads):
    check_good(web, wish)
    way = any_way_of(web, roads)

    def has_way(leaf):
        return LEAVES[leaf[0]](web, leaf, way, roads)

    return folded(wish, has_way, joined_has)


def wish_table(web, wish):
    check_good(web, wish)
    if not binds(wish):
        raise NoTable("not every way of the wish is one of an open or closed in it")
    told = sieved(web, wish, None, tables_of_leaves(web, wish))
    check_size(told)
    return told
