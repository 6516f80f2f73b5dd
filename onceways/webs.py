"""Webs: tuples (places, roads) of a number of places and a list of roads between them.

No refusal names the numbers it refuses: Python does not write very great ones as texts.
"""

from onceways.errors import NoOrder, NoPlace, NoWeb


def web_of(places, roads):
    if places < 1:
        raise NoWeb("a web has one place at least")
    if not all([0 <= a < b < places for a, b in roads]):
        raise NoWeb("a road leads from a place of the web to a greater one")
    if len(set(roads)) < len(roads):
        raise NoWeb("a road is there twice")
    return (places, list(roads))


def grid(rows, columns):
    if rows < 1 or columns < 1:
        raise NoWeb("a grid has one row and one column at least")
    places = rows * columns
    roads = []
    for place in range(places):
        if (place + 1) % columns != 0:
            roads.append((place, place + 1))
        if place + columns < places:
            roads.append((place, place + columns))
    return (places, roads)


def is_place(web, place):
    return 0 <= place < web[0]


def check_place(web, place):
    if not is_place(web, place):
        raise NoPlace("no place of the web")


def roads_at(web, place):
    check_place(web, place)
    return [number for number, road in enumerate(web[1]) if place in road]


def beside(web, place):
    check_place(web, place)
    return sorted([a + b - place for a, b in web[1] if place in (a, b)])


def places_on(roads):
    return [a for a, b in roads] + [b for a, b in roads]


def reordered(web, order):
    roads = web[1]
    if sorted(order) != list(range(len(roads))):
        raise NoOrder("an order has each road number once")
    return (web[0], [roads[number] for number in order])
