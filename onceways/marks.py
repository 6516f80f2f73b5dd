"""Marks: one for each place, of how the roads chosen so far belong together, and how one more road changes them.

A loose end bears the other loose end of its piece, or the mark of that one where it is one of the two ends. Places that
are left behind or not come to yet bear FREE, so that choices which go on alike have the same marks; one that no way
may come to any more bears BARRED. One more number stands behind those of the places: FREE, or DONE.
"""

from onceways.webs import beside

USED = -1
FREE = -2
FIRST = -3
SECOND = -4
BARRED = -5
DONE = 0


def marks_of_ends(one, other):
    return {one: FIRST, other: SECOND}


# The number of the last road at each place.
def last_roads(web):
    last = {}
    for number, road in enumerate(web[1]):
        last[road[0]] = number
        last[road[1]] = number
    return last


# Each road, which of its two places have no later one, and which of these are needed: they must be on the way.
def steps_of(web, needed):
    last = last_roads(web)
    steps = []
    for number, road in enumerate(web[1]):
        leaving = [place for place in road if last[place] == number]
        steps.append((road, leaving, [place for place in leaving if place in needed]))
    return steps


# The marks ahead of all roads, alone in a list; no way comes to a place without roads, so where one is needed the list
# is empty.
def first_marks(web, needed):
    if not all([beside(web, place) for place in needed]):
        return []
    return [tuple([FREE] * (web[0] + 1))]


def is_done(marks):
    return marks[-1] == DONE


def is_loose(mark):
    return mark >= 0 or mark in (FIRST, SECOND)


# Of a place at which no more road may be chosen.
def is_full(mark):
    return mark in (USED, BARRED)


# Of a place at which a road is chosen.
def is_met(mark):
    return mark not in (FREE, BARRED)


def far_end(marks, place, ends):
    return ends.get(place, place) if marks[place] == FREE else marks[place]


# Roads may go round only where there are no ends to come to; either way, what is done has no other piece beside it.
def with_road(marks, road, ends):
    a, b = road
    rounds = marks[a] == b
    if is_done(marks) or is_full(marks[a]) or is_full(marks[b]) or (rounds and ends):
        return None
    far_a = far_end(marks, a, ends)
    far_b = far_end(marks, b, ends)
    changed = list(marks)
    changed[a] = USED
    changed[b] = USED
    if not rounds and far_a >= 0:
        changed[far_a] = far_b
    if not rounds and far_b >= 0:
        changed[far_b] = far_a
    if rounds or (far_a < 0 and far_b < 0):
        if any([is_loose(mark) for mark in changed]):
            return None
        changed[-1] = DONE
    return tuple(changed)


# A place behind which no road is left may not be a loose end, and one that is needed not be without a road.
def left_behind(marks, leaving, needed):
    if not leaving:
        return marks
    if any([is_loose(marks[place]) for place in leaving]) or not all([is_met(marks[place]) for place in needed]):
        return None
    changed = list(marks)
    for place in leaving:
        changed[place] = FREE
    return tuple(changed)


# The marks behind one road more; None where no way can have such a choice, as far as the roads behind it tell.
def decided(marks, step, ends, chosen):
    road, leaving, needed = step
    taken = with_road(marks, road, ends) if chosen else marks
    return None if taken is None else left_behind(taken, leaving, needed)
