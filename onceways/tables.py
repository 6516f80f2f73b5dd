"""Tables: tuples (root, nodes) in which each set of a family stands once; a least one is the only one of its family."""

from onceways.errors import TooMany
from onceways.families import table_of_ways
from onceways.marks import marks_of_ends
from onceways.shelf import MOST_NODES, found_from, least_table
from onceways.tallies import size_of
from onceways.ways import check_ends

MOST_SETS = 300


def family_parts(sets):
    if not sets:
        return 0
    if sets == ((),):
        return 1
    first = min([roads[:1] for roads in sets if roads])
    without = tuple([roads for roads in sets if roads[:1] != first])
    chosen = tuple([roads[1:] for roads in sets if roads[:1] == first])
    return (first[0], without, chosen)


# Sorted and each once, so that what is left of two families is the same where it has the same sets.
def table_of(sets):
    family = tuple(sorted(set([tuple(roads) for roads in sets])))
    return least_table(family, family_parts, MOST_NODES)


def is_right_node(web, nodes, node):
    road, low, high = node
    if not (0 <= road < len(web[1]) and 0 <= low < len(nodes) + 2 and 0 < high < len(nodes) + 2):
        return False
    return all([number < 2 or nodes[number - 2][0] > road for number in (low, high)])


def is_least(web, table):
    root, nodes = table
    if not 0 <= root < len(nodes) + 2 or len(set(nodes)) < len(nodes):
        return False
    if not all([is_right_node(web, nodes, node) for node in nodes]):
        return False
    return found_from(root, nodes) == list(range(2, len(nodes) + 2))


def sets_below(nodes, number):
    if number < 2:
        return [[]] * number
    road, low, high = nodes[number - 2]
    return sets_below(nodes, low) + [[road] + roads for roads in sets_below(nodes, high)]


def sets_of(table):
    if size_of(table) > MOST_SETS:
        raise TooMany("more than three hundred sets")
    return sorted(sets_below(table[1], table[0]))


# The node of what is left of the sets that begin with these roads, less these; 0 where there are none.
def behind_roads(table, roads):
    root, nodes = table
    here = root
    for road in roads:
        while here > 1 and nodes[here - 2][0] < road:
            here = nodes[here - 2][1]
        here = nodes[here - 2][2] if here > 1 and nodes[here - 2][0] == road else 0
    return here


# 1 or 0: whether the set without roads is one of the node's.
def empty_below(nodes, number):
    here = number
    while here > 1:
        here = nodes[here - 2][1]
    return here


def has_set(table, roads):
    return empty_below(table[1], behind_roads(table, roads)) == 1


def ways_table(web, one, other):
    check_ends(web, one, other)
    ends = marks_of_ends(one, other)
    return table_of_ways(web, ends, ends)


def closed_table(web):
    return table_of_ways(web, {}, {})
