"""Ways: lists of places that come to no place twice, and their sets of roads."""

from onceways.errors import NoEnds, NoWay, TooMany
from onceways.webs import beside, is_place, places_on

MOST_WAYS = 300


def check_ends(web, one, other):
    if not is_place(web, one) or not is_place(web, other) or one == other:
        raise NoEnds("the ends are two unlike places of the web")


# Both directions stand in it, as a way may go a road either way.
def numbers_by_step(web):
    numbers = {}
    for number, road in enumerate(web[1]):
        numbers[road] = number
        numbers[(road[1], road[0])] = number
    return numbers


def steps_of(places, closed):
    steps = list(zip(places, places[1:]))
    if closed:
        steps.append((places[-1], places[0]))
    return steps


def goes_once(web, places, closed):
    numbers = numbers_by_step(web)
    by_roads = all([step in numbers for step in steps_of(places, closed)])
    return by_roads and len(set(places)) == len(places)


def is_way(web, one, other, places):
    check_ends(web, one, other)
    if not places or places[0] != one or places[-1] != other:
        return False
    return goes_once(web, places, False)


def is_closed(web, places):
    if len(places) < 3 or places[0] != min(places) or places[1] > places[-1]:
        return False
    return goes_once(web, places, True)


def roads_of(web, places, closed=False):
    numbers = numbers_by_step(web)
    return sorted([numbers[step] for step in steps_of(places, closed)])


def chosen_roads(web, roads):
    return [road for number, road in enumerate(web[1]) if number in roads]


# Goes on, by a road of the list not gone yet, to the least place it can. So a closed way, begun at its least
# place, comes in its told form with its first place once more at the end. Of a list that is no way's set it
# comes to something else than a way with that set; the askers look.
def walk(web, start, roads):
    left = chosen_roads(web, roads)
    places = [start]
    ahead = beside((web[0], left), start)
    while ahead:
        left.remove((min(places[-1], ahead[0]), max(places[-1], ahead[0])))
        places.append(ahead[0])
        ahead = beside((web[0], left), ahead[0])
    return places


def way_of(web, one, other, roads):
    check_ends(web, one, other)
    places = walk(web, one, roads)
    if not is_way(web, one, other, places) or roads_of(web, places) != roads:
        raise NoWay("the set of no way between these ends")
    return places


# Where no road is chosen it matters not where the walk begins: it goes nowhere and is refused.
def closed_of(web, roads):
    start = min(chosen_roads(web, roads), default=(0, 0))[0]
    places = walk(web, start, roads)[:-1]
    if not is_closed(web, places) or roads_of(web, places, True) != roads:
        raise NoWay("the set of no closed way")
    return places


# The way of a set, whatever its ends are: an open one from the lesser of them on, a closed one in its told form.
def any_way_of(web, roads):
    met = places_on(chosen_roads(web, roads))
    loose = sorted([place for place in met if met.count(place) == 1])
    if len(loose) == 2:
        return way_of(web, loose[0], loose[1], roads)
    return closed_of(web, roads)


def reached(links, start, gone):
    found = {start: True}
    pending = [start]
    while pending:
        here = pending.pop()
        for place in links[here]:
            if place not in found and place not in gone:
                found[place] = True
                pending.append(place)
    return found


# Only beginnings that some way begins with are kept, so the search is short where the ways are few; it stops
# at one way more than may be told.
def ways_between(web, one, other):
    links = [beside(web, place) for place in range(web[0])]
    ways = []
    pending = [[one]]
    while pending and len(ways) <= MOST_WAYS:
        places = pending.pop()
        if places[-1] == other:
            ways.append(places)
        else:
            hopeful = reached(links, other, places)
            pending.extend([places + [place] for place in links[places[-1]] if place in hopeful])
    return ways


def told_sets(sets):
    if len(sets) > MOST_WAYS:
        raise TooMany("more than three hundred ways")
    return sorted(sets)


def every_way(web, one, other):
    check_ends(web, one, other)
    return told_sets([roads_of(web, places) for places in ways_between(web, one, other)])


# A closed way is its least road and a way by later roads between that road's places; so each comes once.
def every_closed(web):
    sets = []
    for number, road in enumerate(web[1]):
        later = (web[0], web[1][number + 1:])
        ways = ways_between(later, road[0], road[1])
        sets = told_sets(sets + [roads_of(web, places, True) for places in ways])
    return sets
