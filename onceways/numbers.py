"""Numbers: the sets of a table told by where they stand in the sorted list of all, however many there are."""

from onceways.errors import NoNumber, NoWay
from onceways.tables import behind_roads, empty_below, has_set
from onceways.tallies import from_below, size_of, sizes_of


def how_many(table):
    return size_of(table)


# Below the road no set of a node has it, as later nodes have later roads.
def how_many_with(table, road):
    root, nodes = table
    sizes = sizes_of(nodes)
    having = {0: 0, 1: 0}
    for number in from_below(nodes):
        own, low, high = nodes[number - 2]
        having[number] = sizes[high] if own == road else having[low] + having[high]
    return having[root]


# The sets of a node stand so: the one without roads, where it is there, those of its high, those of its low.
def set_by_number(table, number):
    root, nodes = table
    sizes = sizes_of(nodes)
    if not 0 <= number < sizes[root]:
        raise NoNumber("no set has this number")
    here = root
    ahead = number
    roads = []
    while ahead >= empty_below(nodes, here):
        ahead -= empty_below(nodes, here)
        road, low, high = nodes[here - 2]
        while ahead >= sizes[high]:
            ahead -= sizes[high]
            road, low, high = nodes[low - 2]
        roads.append(road)
        here = high
    return roads


def number_of_set(table, roads):
    if not has_set(table, roads):
        raise NoWay("no set of the table")
    here, nodes = table
    sizes = sizes_of(nodes)
    ahead = 0
    for road in roads:
        ahead += empty_below(nodes, here)
        own, low, high = nodes[here - 2]
        while own < road:
            ahead += sizes[high]
            own, low, high = nodes[low - 2]
        here = high
    return ahead


def beginning_with(table, roads):
    return sizes_of(table[1])[behind_roads(table, roads)]
