"""Tallies: how many sets each node of a table has."""


# A node's low and high have greater roads than its own, so their numbers come ahead of it here.
def from_below(nodes):
    return sorted(range(2, len(nodes) + 2), key=lambda number: nodes[number - 2][0], reverse=True)


def sizes_of(nodes):
    sizes = {0: 0, 1: 1}
    for number in from_below(nodes):
        road, low, high = nodes[number - 2]
        sizes[number] = sizes[low] + sizes[high]
    return sizes


def size_of(table):
    return sizes_of(table[1])[table[0]]


def added(ones, others):
    few, many = (ones, others) if len(ones) < len(others) else (others, ones)
    return [number + many[place] for place, number in enumerate(few)] + many[len(few):]


# How many of a table's sets have 0, 1, 2 .. roads, up to the most that one has.
def lengths_of(table):
    lengths = {0: [], 1: [1]}
    for number in from_below(table[1]):
        road, low, high = table[1][number - 2]
        lengths[number] = added(lengths[low], [0] + lengths[high])
    return list(lengths[table[0]])
