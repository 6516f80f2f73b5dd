"""Other orders of the roads: what a set is by one, and which one makes the table of the ways least."""

from onceways.tables import ways_table
from onceways.ways import check_ends
from onceways.webs import reordered


def put_into(order, roads):
    return [number for number, old in enumerate(order) if old in roads]


# All orders are put to the web ahead of the first table, as a wrong one goes ahead of a table that is too great.
def least_order(web, one, other, orders):
    check_ends(web, one, other)
    turned = [reordered(web, order) for order in orders]
    sizes = [len(ways_table(same, one, other)[1]) for same in turned]
    return sizes.index(min(sizes))
