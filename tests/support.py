"""What several tests need: refusals and answers looked at whole, ways found the plainest way, webs built of parts."""

import copy
import itertools
import random
import unittest

from onceways import errors

REFUSALS = ["NoWeb", "NoPlace", "NoEnds", "NoWay", "NoOrder", "NoStep", "NoWall", "TooMany", "NoNumber", "NoTable",
            "NoText", "NoName", "NoRow"]

GREAT = 10 ** 40
# Python refuses to write numbers like this one as texts.
VERY_GREAT = 10 ** 5000


def spoil(thing):
    """Change every list within a thing, as an asker may do with what is its own."""
    if isinstance(thing, (list, tuple)):
        for part in thing:
            spoil(part)
    if isinstance(thing, list):
        thing.reverse()
        thing.append(thing[0] if thing else 7)


class Case(unittest.TestCase):
    def refuses(self, refusal, asked, *handed):
        before = copy.deepcopy(handed)
        try:
            asked(*handed)
        except ValueError as error:
            caught = error
        else:
            self.fail(f"not refused with {refusal.__name__}")
        self.assertIsInstance(caught, errors.WayError)
        met = [name for name in REFUSALS if isinstance(caught, getattr(errors, name))]
        self.assertEqual(met, [refusal.__name__])
        self.assertTrue(handed == before, "what was handed in was changed")

    def tells(self, answer, asked, *handed):
        before = copy.deepcopy(handed)
        told = asked(*handed)
        self.assertEqual(told, answer)
        self.assertEqual(repr(told), repr(answer))
        self.assertEqual(handed, before)
        spoil(told)
        self.assertEqual(handed, before)
        again = asked(*handed)
        self.assertEqual(again, answer)
        spoil(handed)
        self.assertEqual(again, answer)
        self.assertEqual(asked(*before), answer)


def plain_roads(web, places, closed):
    steps = list(zip(places, places[1:])) + ([(places[-1], places[0])] if closed else [])
    if any((min(step), max(step)) not in web[1] for step in steps):
        return None
    return sorted(web[1].index((min(step), max(step))) for step in steps)


def plain_open(web, one, other):
    """All lists of places that are ways from one to other, each with its set."""
    between = [place for place in range(web[0]) if place not in (one, other)]
    lists = [[one, *middle, other] for size in range(len(between) + 1)
             for middle in itertools.permutations(between, size)]
    found = [(places, plain_roads(web, places, False)) for places in lists]
    return [pair for pair in found if pair[1] is not None]


def plain_closed(web):
    """All told forms of closed ways, each with its set."""
    lists = [list(places) for size in range(3, web[0] + 1) for places in itertools.permutations(range(web[0]), size)]
    lists = [places for places in lists if places[0] == min(places) and places[1] < places[-1]]
    found = [(places, plain_roads(web, places, True)) for places in lists]
    return [pair for pair in found if pair[1] is not None]


def wrong_ends(web):
    places = web[0]
    return [(-1, 0), (0, -1), (places, 0), (0, places), (0, 0), (places - 1, places - 1), (-1, -1),
            (places, places), (places, places + 1), (VERY_GREAT, 0), (0, VERY_GREAT), (0, -VERY_GREAT)]


def random_webs(seed, many, most=6, most_roads=15):
    source = random.Random(seed)
    for nothing in range(many):
        places = source.randint(3, most)
        roads = source.sample(all_pairs(places), min(source.randint(0, len(all_pairs(places))), most_roads))
        yield (places, roads)


def shuffled(web, seed):
    return (web[0], random.Random(seed).sample(web[1], len(web[1])))


def ringed_web(seed, roads=30):
    """Sixteen places in a ring, and roads across it, in any order."""
    source = random.Random(seed)
    ring = [(k, k + 1) for k in range(15)] + [(0, 15)]
    others = [road for road in all_pairs(16) if road not in ring]
    return shuffled((16, ring + source.sample(others, roads - 16)), seed)


# The table of all sets of the roads 0 to 29.
ALL_SETS = (2, [(k, k + 3, k + 3) for k in range(29)] + [(29, 1, 1)])


def random_family(source, roads, many):
    """At most so many sets of the first so many roads, each once."""
    sets = {tuple(sorted(source.sample(range(roads), source.randint(0, roads)))) for nothing in range(many)}
    return sorted(map(list, sets))


def all_sets(roads):
    """All sets of the first so many roads."""
    return [list(some) for size in range(roads + 1) for some in itertools.combinations(range(roads), size)]


def gone_sets(web, one, other, first=0):
    """The sets of all ways by roads from the first one on, each gone along."""
    found = []

    def go(places, roads):
        if places[-1] == other:
            found.append(sorted(roads))
            return
        for number in range(first, len(web[1])):
            if places[-1] in web[1][number]:
                place = sum(web[1][number]) - places[-1]
                if place not in places:
                    go([*places, place], [*roads, number])

    go([one], [])
    return sorted(found)


def gone_closed(web):
    """The sets of all closed ways, by their least road and a way back."""
    return sorted([number, *roads] for number, (a, b) in enumerate(web[1])
                  for roads in gone_sets(web, a, b, number + 1))


def plain_table(sets):
    """The least table of a family: a node is what is left of it behind some decided roads, told apart by its sets."""
    root = frozenset(map(tuple, sets))
    numbers = {frozenset(): 0, frozenset([()]): 1}
    found = [root] if root not in numbers else []
    numbers.update({family: 2 for family in found})
    nodes = []
    for family in found:
        road = min(min(roads) for roads in family if roads)
        low = frozenset(roads for roads in family if road not in roads)
        high = frozenset(roads[1:] for roads in family if road in roads)
        for part in (low, high):
            if part not in numbers:
                numbers[part] = len(found) + 2
                found.append(part)
        nodes.append((road, numbers[low], numbers[high]))
    return (numbers[root], nodes)


def family_with(nodes):
    """A list of sets whose least table has just so many nodes."""
    source = random.Random(nodes)
    sets = []
    while True:
        more = sets + [sorted(source.sample(range(30), source.randint(1, 15)))]
        many = len(plain_table(more)[1])
        if many == nodes:
            return more
        if many < nodes:
            sets = more


def all_pairs(places):
    return [(a, b) for a in range(places) for b in range(a + 1, places)]


# Parts of a row from their place 0 to their last one: how many places, and which roads.
# There are 5, 4, 3, 16 ways along them, and 7, 3, 3, 37 closed ones in them.
FULL_FOUR = (4, all_pairs(4))
FOUR_WITHOUT_ENDS = (4, [(0, 1), (0, 2), (1, 2), (1, 3), (2, 3)])
FOUR_WITHOUT_MIDDLE = (4, [(0, 1), (0, 2), (0, 3), (1, 3), (2, 3)])
FULL_FIVE = (5, all_pairs(5))
TRIANGLE = (3, all_pairs(3))


def row_of(parts):
    """The web of parts in a row, the last place of each being the first one of the next."""
    last, roads = 0, []
    for places, within in parts:
        roads += [(last + a, last + b) for a, b in within]
        last += places - 1
    return (last + 1, roads)


def every_one(web):
    """All ways of a small web: tuples of their two ends (none of a closed one), their places and their roads."""
    ways = [((), places, roads) for places, roads in plain_closed(web)]
    for one, other in all_pairs(web[0]):
        ways += [((one, other), places, roads) for places, roads in plain_open(web, one, other)]
    return ways


def plainly_wished(web, wish, way):
    """Whether a wish has a way, by the words that point 41 says of it."""
    word, (ends, places, roads) = wish[0], way
    if word in ("and", "or", "but"):
        first, second = (plainly_wished(web, part, way) for part in wish[1:])
        return {"and": first and second, "or": first or second, "but": first and not second}[word]
    return {
        "open": lambda: set(ends) == set(wish[1:]),
        "closed": lambda: ends == (),
        "with": lambda: set(wish[1]) <= set(roads),
        "off": lambda: not set(wish[1]) & set(roads),
        "over": lambda: set(wish[1]) <= set(places),
        "past": lambda: not set(wish[1]) & set(places),
        "long": lambda: wish[1] <= len(roads) <= wish[2],
        "shy": lambda: all(number in roads for number, road in enumerate(web[1]) if set(road) <= set(places)),
        "all": lambda: set(places) == set(range(web[0])),
    }[word]()


def plainly_binds(wish):
    if wish[0] == "and":
        return plainly_binds(wish[1]) or plainly_binds(wish[2])
    if wish[0] == "or":
        return plainly_binds(wish[1]) and plainly_binds(wish[2])
    if wish[0] == "but":
        return plainly_binds(wish[1])
    return wish[0] in ("open", "closed")


def random_leaf(source, web, words):
    word = source.choice(words)
    if word == "open":
        return ("open", *source.sample(range(web[0]), 2))
    if word == "long":
        return ("long", source.randint(0, 4), source.randint(1, 9))
    if word in ("with", "off"):
        return (word, tuple(source.choices(range(len(web[1])), k=source.randint(0, 2)))) if web[1] else (word, ())
    if word in ("over", "past"):
        return (word, tuple(source.choices(range(web[0]), k=source.randint(0, 2))))
    return (word,)


LEAF_WORDS = ("open", "closed", "with", "off", "over", "past", "long", "shy", "all")


def random_wish(source, web, depth):
    """Any good wish of at most this depth."""
    if depth == 1 or source.random() < 0.1:
        return random_leaf(source, web, LEAF_WORDS)
    parts = (random_wish(source, web, depth - 1), random_wish(source, web, depth - 1))
    return (source.choice(("and", "or", "but")), *parts)


def binding_wish(source, web, depth):
    """Any good wish of at most this depth that binds."""
    if depth == 1 or source.random() < 0.1:
        return random_leaf(source, web, ("open", "closed"))
    word = source.choice(("and", "or", "but"))
    first = binding_wish(source, web, depth - 1)
    second = (binding_wish if word == "or" else random_wish)(source, web, depth - 1)
    return (word, second, first) if word == "and" and source.random() < 0.5 else (word, first, second)


# Things of many kinds, none of them a wish, a text of one or of a web, or a row.
THINGS = [None, True, False, 0, 1, -1, 1.5, "", " ", "x", b"closed", [], {}, (), set(), object, ValueError, len,
          ["closed"], ("closed", "closed"), {"closed": 1}, [("closed",)], (("closed",),), range(3), frozenset(["shy"])]
