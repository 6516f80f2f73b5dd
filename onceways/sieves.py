"""Sieves: of a table's ways those that a wish has, as a table."""

from onceways.joined import MOST_ON_THE_WAY, having, in_both, in_either, in_first_alone, joined_by, long_ones, touching
from onceways.parts import JOINING, folded, leaves_of
from onceways.shy import shy_closed, shy_table
from onceways.tables import closed_table, ways_table
from onceways.webs import roads_at

BINDING = ("open", "closed")


def joined_binds(word, first, second):
    if word == "and":
        return first or second
    return first and second if word == "or" else first


def binds(wish):
    return folded(wish, lambda leaf: leaf[0] in BINDING, joined_binds)


def joined_on_the_way(one, other, rule):
    return joined_by(one, other, rule, MOST_ON_THE_WAY)


def by_ends(web, leaf, of_ends, of_closed):
    return of_ends(web, leaf[1], leaf[2]) if leaf[0] == "open" else of_closed(web)


# The table of each leaf that binds; and of shy, as far as it is asked for, the shy ones of all these ways.
def tables_of_leaves(web, wish):
    leaves = leaves_of(wish)
    tables = {}
    for leaf in leaves:
        if leaf[0] in BINDING and leaf not in tables:
            tables[leaf] = by_ends(web, leaf, ways_table, closed_table)
    if ("shy",) in leaves:
        shy_ones = (0, [])
        for leaf in list(tables):
            shy_ones = joined_on_the_way(shy_ones, by_ends(web, leaf, shy_table, shy_closed), in_either)
        tables[("shy",)] = shy_ones
    return tables


def over_all(web, table, places):
    kept = table
    for place in places:
        kept = touching(kept, roads_at(web, place), MOST_ON_THE_WAY)
    return kept


def past_all(web, table, places):
    off = []
    for place in places:
        off.extend(roads_at(web, place))
    return having(table, [], off, MOST_ON_THE_WAY)


def sieved_by_leaf(web, leaf, table):
    word = leaf[0]
    if word == "with":
        return having(table, leaf[1], [], MOST_ON_THE_WAY)
    if word == "off":
        return having(table, [], leaf[1], MOST_ON_THE_WAY)
    if word == "past":
        return past_all(web, table, leaf[1])
    if word == "long":
        return long_ones(table, leaf[1], leaf[2], MOST_ON_THE_WAY)
    return over_all(web, table, leaf[1] if word == "over" else list(range(web[0])))


# Of all ways, where there is no table yet: then the wish binds.
def sieved(web, wish, table, tables):
    word = wish[0]
    if wish in tables:
        return tables[wish] if table is None else joined_on_the_way(table, tables[wish], in_both)
    if word not in JOINING:
        return sieved_by_leaf(web, wish, table)
    first, second = wish[1:]
    if word == "or":
        both = [sieved(web, first, table, tables), sieved(web, second, table, tables)]
        return joined_on_the_way(both[0], both[1], in_either)
    if table is None and not binds(first):
        first, second = second, first
    kept = sieved(web, first, table, tables)
    common = sieved(web, second, kept, tables)
    return common if word == "and" else joined_on_the_way(kept, common, in_first_alone)
