"""Prices: the cheapest sets of a table, and a paper by which anyone can see that none is cheaper."""

from onceways.errors import NoNumber, NoWay, TooMany
from onceways.tallies import from_below

MOST_TOLD = 100


# Of each node the first k of its sets with their prices. A road put to each of the sets of a high leaves their order as
# it is, so what is not among the first k there is not so above, either.
def cheapest_below(nodes, prices, k):
    cheapest = {0: [], 1: [(0, [])]}
    for number in from_below(nodes):
        road, low, high = nodes[number - 2]
        chosen = [(price + prices[road], [road] + roads) for price, roads in cheapest[high]]
        cheapest[number] = sorted(cheapest[low] + chosen)[:k]
    return cheapest


def least_price(table, prices):
    root, nodes = table
    told = cheapest_below(nodes, prices, 1)[root]
    return told[0] if told else None


def price_paper(table, prices):
    root, nodes = table
    if root == 0:
        raise NoWay("there is no set that could have a price")
    cheapest = cheapest_below(nodes, prices, 1)
    return [cheapest[number][0][0] for number in range(2, len(nodes) + 2)]


def cheapest_sets(table, prices, k):
    if k < 0:
        raise NoNumber("not fewer sets than none are told")
    if k > MOST_TOLD:
        raise TooMany("more than a hundred sets")
    root, nodes = table
    return cheapest_below(nodes, prices, k)[root][:k]
