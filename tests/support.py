"""What several tests need: refusals and answers looked at whole, ways found the plainest way, webs built of parts."""

import copy
import itertools
import unittest

from onceways import errors

REFUSALS = ["NoWeb", "NoPlace", "NoEnds", "NoWay", "NoOrder", "NoStep", "NoWall", "TooMany", "NoNumber", "NoTable",
            "NoText", "NoName", "NoRow"]

GREAT = 10 ** 40
# Python refuses to write numbers like this one as texts.
VERY_GREAT = 10 ** 5000


def spoil(thing):
    """Change every list within a thing, as an asker may do with what is its own."""
    if isinstance(thing, (list, tuple)):
        for part in thing:
            spoil(part)
    if isinstance(thing, list):
        thing.reverse()
        thing.append(thing[0] if thing else 7)


class Case(unittest.TestCase):
    def refuses(self, refusal, asked, *handed):
        before = copy.deepcopy(handed)
        try:
            asked(*handed)
        except ValueError as error:
            caught = error
        else:
            self.fail(f"not refused with {refusal.__name__}")
        self.assertIsInstance(caught, errors.WayError)
        met = [name for name in REFUSALS if isinstance(caught, getattr(errors, name))]
        self.assertEqual(met, [refusal.__name__])
        self.assertTrue(handed == before, "what was handed in was changed")

    def tells(self, answer, asked, *handed):
        before = copy.deepcopy(handed)
        told = asked(*handed)
        self.assertEqual(told, answer)
        self.assertEqual(repr(told), repr(answer))
        self.assertEqual(handed, before)
        spoil(told)
        self.assertEqual(handed, before)
        again = asked(*handed)
        self.assertEqual(again, answer)
        spoil(handed)
        self.assertEqual(again, answer)
        self.assertEqual(asked(*before), answer)


def plain_roads(web, places, closed):
    steps = list(zip(places, places[1:])) + ([(places[-1], places[0])] if closed else [])
    if any((min(step), max(step)) not in web[1] for step in steps):
        return None
    return sorted(web[1].index((min(step), max(step))) for step in steps)


def plain_open(web, one, other):
    """All lists of places that are ways from one to other, each with its set."""
    between = [place for place in range(web[0]) if place not in (one, other)]
    lists = [[one, *middle, other] for size in range(len(between) + 1)
             for middle in itertools.permutations(between, size)]
    found = [(places, plain_roads(web, places, False)) for places in lists]
    return [pair for pair in found if pair[1] is not None]


def plain_closed(web):
    """All told forms of closed ways, each with its set."""
    lists = [list(places) for size in range(3, web[0] + 1) for places in itertools.permutations(range(web[0]), size)]
    lists = [places for places in lists if places[0] == min(places) and places[1] < places[-1]]
    found = [(places, plain_roads(web, places, True)) for places in lists]
    return [pair for pair in found if pair[1] is not None]


def all_pairs(places):
    return [(a, b) for a in range(places) for b in range(a + 1, places)]


# Parts of a row from their place 0 to their last one: how many places, and which roads.
# There are 5, 4, 3, 16 ways along them, and 7, 3, 3, 37 closed ones in them.
FULL_FOUR = (4, all_pairs(4))
FOUR_WITHOUT_ENDS = (4, [(0, 1), (0, 2), (1, 2), (1, 3), (2, 3)])
FOUR_WITHOUT_MIDDLE = (4, [(0, 1), (0, 2), (0, 3), (1, 3), (2, 3)])
FULL_FIVE = (5, all_pairs(5))
TRIANGLE = (3, all_pairs(3))


def row_of(parts):
    """The web of parts in a row, the last place of each being the first one of the next."""
    last, roads = 0, []
    for places, within in parts:
        roads += [(last + a, last + b) for a, b in within]
        last += places - 1
    return (last + 1, roads)
