"""Joined tables: the least ones of what two tables have in common or apart, and of some of the sets of one."""

from onceways.errors import TooMany
from onceways.shelf import MOST_NODES, least_table

# A table on the way to the one that is told may be greater than that, up to this bound.
MOST_ON_THE_WAY = 8000


# The sets of a node without a road that is not above its own, and those with it less that road.
def parts_by(nodes, number, road):
    if number > 1 and nodes[number - 2][0] == road:
        return nodes[number - 2][1:]
    return (number, 0)


# rule tells of a set, by whether the one table and the other one have it, whether the joined one does.
def joined_by(one, other, rule, most):
    def parts(pair):
        first, second = pair
        roads = [one[1][first - 2][0]] if first > 1 else []
        if second > 1:
            roads.append(other[1][second - 2][0])
        if not roads:
            return 1 if rule(first == 1, second == 1) else 0
        road = min(roads)
        low, high = parts_by(one[1], first, road)
        other_low, other_high = parts_by(other[1], second, road)
        return (road, (low, other_low), (high, other_high))

    return least_table((one[0], other[0]), parts, most)


def in_both(first, second):
    return first and second


def in_either(first, second):
    return first or second


def in_first_alone(first, second):
    return first and not second


def both_of(one, other):
    return joined_by(one, other, in_both, MOST_NODES)


def either_of(one, other):
    return joined_by(one, other, in_either, MOST_NODES)


def first_without(one, other):
    return joined_by(one, other, in_first_alone, MOST_NODES)


# Of each set something is kept in mind from road to road: start for none, then what after tells of it and the next
# road, None where the set is out already; in the end good tells by it whether the set is in.
def sifted(table, start, after, good, most):
    def parts(pair):
        number, kept = pair
        if number == 0 or kept is None:
            return 0
        if number == 1:
            return 1 if good(kept) else 0
        road, low, high = table[1][number - 2]
        return (road, (low, kept), (high, after(kept, road)))

    return least_table((table[0], start), parts, most)


# How many of the wished roads a set has is kept in mind; it has all where these are as many as there are.
def having(table, roads, off, most):
    def after(many, road):
        if road in off:
            return None
        return many + 1 if road in roads else many

    wished = len(set(roads))
    return sifted(table, 0, after, lambda many: many == wished, most)


def touching(table, roads, most):
    def after(met, road):
        return met or road in roads

    return sifted(table, False, after, lambda met: met, most)


def long_ones(table, low, high, most):
    def after(many, road):
        return many + 1

    return sifted(table, 0, after, lambda many: low <= many <= high, most)


def check_size(table):
    if len(table[1]) > MOST_NODES:
        raise TooMany("more nodes than a table may have")


def through_roads(table, roads, off):
    return having(table, roads, off, MOST_NODES)


def touching_all(table, lists):
    touched = (table[0], list(table[1]))
    for roads in lists:
        touched = touching(touched, roads, MOST_ON_THE_WAY)
    check_size(touched)
    return touched


def of_lengths(table, low, high):
    return long_ones(table, low, high, MOST_NODES)
