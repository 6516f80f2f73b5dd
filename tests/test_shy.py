import itertools
import random

from onceways.errors import NoEnds, NoWay, TooMany
from onceways.shy import closed_through_all, over_places, shy_closed, shy_table, through_all
from onceways.tables import closed_table, is_least, sets_of, ways_table
from onceways.webs import grid, reordered
from onceways.ways import closed_of, way_of
from tests.support import (FULL_FOUR, TRIANGLE, VERY_GREAT, Case, all_pairs, gone_closed, gone_sets, plain_closed,
                           plain_open, plain_table, random_webs, ringed_web, row_of, shuffled, wrong_ends)


def fresh(web):
    return (web[0], list(web[1]))


def places_of(web, roads):
    return {place for road in roads for place in web[1][road]}


def is_shy(web, roads):
    places = places_of(web, roads)
    return all(number in roads for number, road in enumerate(web[1]) if places.issuperset(road))


def shy_ones(web, sets):
    return [roads for roads in sets if is_shy(web, roads)]


def ones_over(web, sets, places):
    return [roads for roads in sets if places_of(web, roads).issuperset(places)]


def open_sets(web, one, other):
    return [roads for places, roads in plain_open(web, one, other)]


def closed_sets(web):
    return [roads for places, roads in plain_closed(web)]


def great_webs():
    """Webs of sixteen places and thirty roads, and grids, in their own and in other orders."""
    for seed in range(4):
        yield ringed_web(seed)
        yield ringed_web(seed, 24)
        yield shuffled(row_of([FULL_FOUR] * 5), seed)
        yield shuffled(grid(4, 4), seed)
    yield grid(4, 4)
    yield grid(2, 8)
    yield row_of([TRIANGLE] * 7)


class TableCase(Case):
    def told_or_refused(self, sets, asked, web, *handed):
        """The least table of the sets is told, or refused where it is too great; tells which."""
        table = plain_table(sets)
        if len(table[1]) > 800:
            self.refuses(TooMany, asked, web, *handed)
            return False
        told = asked(web, *handed)
        self.assertEqual(told, table)
        self.assertIs(is_least(web, told), True)
        return True


class ShyTest(TableCase):
    def test_by_hand(self):
        web = (4, [(0, 1), (1, 2), (2, 3), (0, 2)])
        self.tells(plain_table([[2, 3]]), shy_table, fresh(web), 0, 3)
        self.tells(plain_table([[3]]), shy_table, fresh(web), 0, 2)
        self.tells(plain_table([[0]]), shy_table, fresh(web), 1, 0)
        self.tells(plain_table([[0, 1, 3]]), shy_closed, fresh(web))
        self.tells(plain_table([[0, 2], [1, 3]]), shy_table, grid(2, 2), 0, 3)
        self.tells(plain_table([[0, 1, 2, 3]]), shy_closed, grid(2, 2))

    def test_none(self):
        for web in ((2, []), (4, [(0, 1), (2, 3)]), (4, [(1, 2), (2, 3), (1, 3)])):
            self.tells((0, []), shy_table, fresh(web), 0, web[0] - 1)
        for web in ((1, []), (2, [(0, 1)]), (4, [(0, 1), (2, 3)]), (5, [(0, 1), (1, 2), (1, 3), (3, 4)])):
            self.tells((0, []), shy_closed, fresh(web))

    def test_each_place_beside_each(self):
        for places in range(2, 9):
            web = (places, all_pairs(places))
            for one, other in all_pairs(places):
                self.tells((2, [(web[1].index((one, other)), 0, 1)]), shy_table, fresh(web), one, other)
                self.assertEqual(shy_table(web, other, one), shy_table(web, one, other))
            triangles = [sorted(web[1].index(road) for road in itertools.combinations(three, 2))
                         for three in itertools.combinations(range(places), 3)]
            self.tells(plain_table(triangles), shy_closed, fresh(web))

    def test_ways_round_a_ring(self):
        web = (6, [(k, k + 1) for k in range(5)] + [(0, 5)])
        self.tells(plain_table([[0, 1, 2], [3, 4, 5]]), shy_table, fresh(web), 0, 3)
        self.tells(plain_table([[0]]), shy_table, fresh(web), 0, 1)
        self.tells(plain_table([[0, 1, 2, 3, 4, 5]]), shy_closed, fresh(web))
        across = (6, web[1] + [(0, 3)])
        self.tells(plain_table([[6]]), shy_table, fresh(across), 3, 0)
        self.tells(plain_table([[0, 1, 2, 6], [3, 4, 5, 6]]), shy_closed, fresh(across))

    def test_small_webs(self):
        for web in random_webs(141, 80):
            for one, other in ((0, 1), (2, 0)):
                self.tells(plain_table(shy_ones(web, open_sets(web, one, other))), shy_table, fresh(web), one, other)
            self.tells(plain_table(shy_ones(web, closed_sets(web))), shy_closed, fresh(web))

    def test_great_webs(self):
        told = 0
        for web in great_webs():
            for one, other in ((0, web[0] - 1), (5, 2)):
                sets = shy_ones(web, gone_sets(web, one, other))
                told += self.told_or_refused(sets, shy_table, web, one, other)
            told += self.told_or_refused(shy_ones(web, gone_closed(web)), shy_closed, web)
        self.assertGreater(told, 40)

    def test_in_any_order_of_the_roads(self):
        web = grid(3, 4)
        ways = sorted(way_of(web, 0, 10, roads) for roads in sets_of(shy_table(web, 0, 10)))
        rings = sorted(closed_of(web, roads) for roads in sets_of(shy_closed(web)))
        self.assertGreater(len(ways), 5)
        self.assertGreater(len(rings), 5)
        for seed in range(10):
            other = reordered(web, random.Random(seed).sample(range(17), 17))
            self.assertEqual(sorted(way_of(other, 0, 10, roads) for roads in sets_of(shy_table(other, 0, 10))), ways)
            self.assertEqual(sorted(closed_of(other, roads) for roads in sets_of(shy_closed(other))), rings)

    def test_no_ends(self):
        for web in ((1, []), (2, [(0, 1)]), grid(2, 3)):
            for one, other in wrong_ends(web):
                self.refuses(NoEnds, shy_table, web, one, other)


class ThroughAllTest(TableCase):
    def test_by_hand(self):
        web = (4, [(0, 1), (1, 2), (2, 3), (0, 2)])
        self.tells(plain_table([[0, 1, 2]]), through_all, fresh(web), 0, 3)
        self.tells((0, []), through_all, fresh(web), 0, 2)
        self.tells((0, []), closed_through_all, fresh(web))
        self.tells((2, [(0, 0, 1)]), through_all, (2, [(0, 1)]), 1, 0)
        self.tells((2, [(0, 0, 3), (1, 0, 4), (2, 0, 5), (3, 0, 1)]), closed_through_all, grid(2, 2))

    def test_none(self):
        for web in ((1, []), (2, [(0, 1)]), (3, [(0, 1), (1, 2)]), (4, all_pairs(3)), grid(3, 3), grid(1, 6)):
            self.tells((0, []), closed_through_all, fresh(web))
        for web in ((2, []), (3, [(0, 1)]), (4, all_pairs(3)), (5, [(0, 1), (0, 2), (0, 3), (0, 4)])):
            self.tells((0, []), through_all, fresh(web), 0, 1)

    def test_each_place_beside_each(self):
        for places, many, rounds in ((3, 1, 1), (4, 2, 3), (5, 6, 12), (6, 24, 60)):
            web = (places, all_pairs(places))
            self.assertEqual(len(sets_of(through_all(web, 0, 1))), many)
            self.assertEqual(len(sets_of(closed_through_all(web))), rounds)

    def test_small_webs(self):
        for web in random_webs(142, 80):
            places = range(web[0])
            for one, other in ((0, 1), (2, 0)):
                sets = ones_over(web, open_sets(web, one, other), places)
                self.tells(plain_table(sets), through_all, fresh(web), one, other)
            self.tells(plain_table(ones_over(web, closed_sets(web), places)), closed_through_all, fresh(web))

    def test_great_webs(self):
        told = 0
        for web in great_webs():
            places = range(web[0])
            for one, other in ((0, web[0] - 1), (5, 2)):
                sets = ones_over(web, gone_sets(web, one, other), places)
                told += self.told_or_refused(sets, through_all, web, one, other)
            told += self.told_or_refused(ones_over(web, gone_closed(web), places), closed_through_all, web)
        self.assertGreater(told, 40)

    def test_more_than_eight_hundred_nodes(self):
        full = (8, all_pairs(8))
        places = range(8)
        for web, two_ends in ((full, True), (shuffled(full, 1), False)):
            sets = ones_over(web, gone_sets(web, 0, 1), places)
            self.assertIs(self.told_or_refused(sets, through_all, web, 0, 1), two_ends)
            self.assertIs(self.told_or_refused(ones_over(web, gone_closed(web), places), closed_through_all, web),
                          False)

    def test_in_any_order_of_the_roads(self):
        web = grid(4, 3)
        ways = sorted(way_of(web, 0, 11, roads) for roads in sets_of(through_all(web, 0, 11)))
        rings = sorted(closed_of(web, roads) for roads in sets_of(closed_through_all(web)))
        self.assertEqual((len(ways), len(rings)), (4, 2))
        for seed in range(10):
            other = reordered(web, random.Random(seed).sample(range(17), 17))
            self.assertEqual(sorted(way_of(other, 0, 11, roads) for roads in sets_of(through_all(other, 0, 11))), ways)
            self.assertEqual(sorted(closed_of(other, roads) for roads in sets_of(closed_through_all(other))), rings)

    def test_no_ends(self):
        for web in ((1, []), (2, [(0, 1)]), grid(2, 3)):
            for one, other in wrong_ends(web):
                self.refuses(NoEnds, through_all, web, one, other)


class OverPlacesTest(TableCase):
    def test_no_place_and_the_ends(self):
        for web in (grid(3, 3), (4, [(0, 1), (1, 2), (2, 3), (0, 2)]), (3, [(0, 1)])):
            last = web[0] - 1
            for places in ([], [0], [last], [0, last], [last, 0, last], [0, 0]):
                self.tells(ways_table(web, 0, last), over_places, fresh(web), 0, last, places)

    def test_all_places(self):
        for web in random_webs(143, 20):
            for places in (list(range(web[0])), list(range(1, web[0] - 1)), list(range(web[0]))[::-1] * 2):
                self.tells(through_all(web, 0, web[0] - 1), over_places, fresh(web), 0, web[0] - 1, places)

    def test_small_webs(self):
        source = random.Random(144)
        for web in random_webs(145, 80):
            for many in range(6):
                places = source.choices(range(web[0]), k=many)
                for one, other in ((0, 1), (2, 0)):
                    sets = ones_over(web, open_sets(web, one, other), places)
                    self.tells(plain_table(sets), over_places, fresh(web), one, other, list(places))

    def test_in_any_order_and_some_twice(self):
        web = grid(3, 3)
        table = over_places(web, 0, 8, [2, 4, 6])
        self.assertEqual(table, plain_table(ones_over(web, gone_sets(web, 0, 8), [2, 4, 6])))
        for places in itertools.permutations([2, 4, 6]):
            self.tells(table, over_places, fresh(web), 0, 8, list(places))
            self.tells(table, over_places, fresh(web), 0, 8, [*places, 4, 0, 2, 8, 2])

    def test_a_place_without_roads(self):
        self.tells((0, []), over_places, (4, all_pairs(3)), 0, 1, [3])
        self.tells((0, []), over_places, (4, all_pairs(3)), 0, 3, [])
        self.tells(plain_table([[1, 2]]), over_places, (4, all_pairs(3)), 0, 1, [2])

    def test_great_webs(self):
        told = 0
        for web in great_webs():
            for places in ([3, 9], [1, 4, 7, 8, 10, 12]):
                sets = ones_over(web, gone_sets(web, 0, 11), places)
                told += self.told_or_refused(sets, over_places, web, 0, 11, places)
        self.assertGreater(told, 20)
        self.assertLess(told, 38)

    def test_places_that_are_none(self):
        web = grid(2, 3)
        for place in (-1, 6, 7, -6, VERY_GREAT, -VERY_GREAT):
            for places in ([place], [0, place], [place, 5], [1, 2, place, 3]):
                self.refuses(NoWay, over_places, web, 0, 5, places)
        self.refuses(NoWay, over_places, (2, []), 0, 1, [2])

    def test_no_ends_goes_first(self):
        for web in ((1, []), (2, [(0, 1)]), grid(2, 3)):
            for one, other in wrong_ends(web):
                for places in ([], [0], [-1], [web[0]], [VERY_GREAT]):
                    self.refuses(NoEnds, over_places, web, one, other, places)


class WholeTest(Case):
    def test_shy_and_through_all_are_some_of_all_ways(self):
        for web in (grid(3, 4), ringed_web(7, 20)):
            ways, rings = sets_of(ways_table(web, 0, 7)), sets_of(closed_table(web))
            for table in (shy_table(web, 0, 7), through_all(web, 0, 7), over_places(web, 0, 7, [2, 3])):
                self.assertTrue(all(roads in ways for roads in sets_of(table)))
            for table in (shy_closed(web), closed_through_all(web)):
                self.assertTrue(all(roads in rings for roads in sets_of(table)))
