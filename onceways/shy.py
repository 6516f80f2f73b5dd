"""Shy ways, which no road of the web joins but their own, and ways on which told places are; their least tables."""

from onceways.errors import NoWay
from onceways.families import table_of_kind, table_of_ways
from onceways.marks import BARRED, FREE, is_met, last_roads, left_behind, marks_of_ends, steps_of, with_road
from onceways.ways import check_ends
from onceways.webs import is_place


# The places beside one by roads decided behind so many, less those that no later road leads to.
def met_beside(web, many, place, last):
    behind = [road for road in web[1][:many] if place in road]
    return [a + b - place for a, b in behind if last[a + b - place] >= many]


# To each step, for its two places, which ones they are beside by it and the roads ahead of it.
def shy_steps(web, needed):
    last = last_roads(web)
    steps = []
    for number, step in enumerate(steps_of(web, needed)):
        steps.append((step, [met_beside(web, number + 1, place, last) for place in step[0]]))
    return steps


def barred(marks, places):
    changed = list(marks)
    for place in places:
        if changed[place] == FREE:
            changed[place] = BARRED
    return tuple(changed)


# A decided road from a place on the way to a free one is not chosen, so the way may not come to that one.
def shyly_decided(marks, step, ends, chosen):
    plain, others = step
    road, leaving, needed = plain
    taken = with_road(marks, road, ends) if chosen else marks
    if taken is None or (not chosen and all([is_met(marks[place]) for place in road])):
        return None
    for place, beside_it in zip(road, others):
        if is_met(taken[place]):
            taken = barred(taken, beside_it)
    return left_behind(taken, leaving, needed)


def shy_table(web, s, t):
    check_ends(web, s, t)
    ends = marks_of_ends(s, t)
    return table_of_kind(web, ends, ends, shy_steps, shyly_decided)


def shy_closed(web):
    return table_of_kind(web, {}, {}, shy_steps, shyly_decided)


def over_places(web, s, t, places):
    check_ends(web, s, t)
    if not all([is_place(web, place) for place in places]):
        raise NoWay("a way comes to places of the web alone")
    return table_of_ways(web, marks_of_ends(s, t), [s, t] + places)


def through_all(web, s, t):
    return over_places(web, s, t, list(range(web[0])))


def closed_through_all(web):
    return table_of_ways(web, {}, list(range(web[0])))
