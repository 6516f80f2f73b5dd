"""Families of ways: the table of all ways of a web, laid down wall by wall in an order of the roads that keeps it
small, and the same family turned into the order in which the web has them.
"""

from onceways.errors import TooMany
from onceways.marks import decided, first_marks, is_done, steps_of
from onceways.shelf import MOST_NODES, Shelf, laid_down
from onceways.webs import places_on, reordered, roads_at


# How many places more stand at the front once all roads of this one are decided behind those that are.
def widened(web, order, place):
    behind = [web[1][number] for number in order]
    met = [web[1][number] for number in roads_at(web, place) if number not in order]
    return len(set(places_on(met)) - set(places_on(behind)))


# Place after place is left behind, always one that widens the front least: the walls are few where it is narrow.
def narrow_order(web):
    order = []
    left = list(range(web[0]))
    while left:
        place = min(left, key=lambda one: widened(web, order, one))
        left.remove(place)
        order.extend([number for number in roads_at(web, place) if number not in order])
    return order


# decide tells of marks, a step, the ends and whether its road is chosen the marks behind that step, or None.
def laid_ways(firsts, steps, ends, decide, shelf):
    def parts(known):
        number, marks = known
        if marks is None:
            return 0
        if number == len(steps):
            return 1 if is_done(marks) else 0
        without = decide(marks, steps[number], ends, False)
        chosen = decide(marks, steps[number], ends, True)
        return (number, (number + 1, without), (number + 1, chosen))

    return laid_down((0, firsts[0] if firsts else None), parts, shelf)


# The sets of a node without a road, and those with it less that road.
def parted(shelf, number, road, known):
    node = shelf.nodes[number - 2] if number > 1 else None
    if node is None or node[0] > road:
        return (number, 0)
    if node[0] == road:
        return node[1:]
    if number not in known:
        lows = parted(shelf, node[1], road, known)
        highs = parted(shelf, node[2], road, known)
        known[number] = (shelf.put(node[0], lows[0], highs[0]), shelf.put(node[0], lows[1], highs[1]))
    return known[number]


# The first road, by the web's order, that a set of the node has; one beyond all roads where none has one.
def first_road(shelf, number, order, known):
    if number < 2:
        return len(order)
    if number not in known:
        place, low, high = shelf.nodes[number - 2]
        below = min(first_road(shelf, low, order, known), first_road(shelf, high, order, known))
        known[number] = min(order[place], below)
    return known[number]


# The shelf tells families apart by their numbers, so each one met is a node of the least table in the web's order, and
# they are met in the order in which that table numbers them.
def turned(shelf, root, order):
    if root < 2:
        return (root, [])
    met = [root]
    numbers = {0: 0, 1: 1, root: 2}
    firsts = {}
    nodes = []
    while len(nodes) < len(met):
        here = met[len(nodes)]
        road = first_road(shelf, here, order, firsts)
        below = parted(shelf, here, order.index(road), {})
        for number in below:
            if number not in numbers:
                numbers[number] = len(met) + 2
                met.append(number)
        if len(met) > MOST_NODES:
            raise TooMany("more nodes than a table may have")
        nodes.append((road, numbers[below[0]], numbers[below[1]]))
    return (2, nodes)


# Of the ways on which the needed places are, of all of them or of such as another making of steps and deciding lets by.
def narrow_family(web, ends, needed, make_steps, decide):
    order = narrow_order(web)
    narrow = reordered(web, order)
    shelf = Shelf()
    root = laid_ways(first_marks(narrow, needed), make_steps(narrow, needed), ends, decide, shelf)
    return (shelf, root, order)


def table_of_kind(web, ends, needed, make_steps, decide):
    shelf, root, order = narrow_family(web, ends, needed, make_steps, decide)
    return turned(shelf, root, order)


def table_of_ways(web, ends, needed):
    return table_of_kind(web, ends, needed, steps_of, decided)


# How many ways there are, and of how many roads, does not hang on the order of the roads; this table may have any size.
def narrow_table(web, ends):
    shelf, root, order = narrow_family(web, ends, ends, steps_of, decided)
    return (root, shelf.nodes)
