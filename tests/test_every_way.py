import random

from onceways.errors import NoEnds, TooMany
from onceways.webs import grid, reordered
from onceways.ways import closed_of, every_closed, every_way, roads_of, way_of
from tests.support import (FOUR_WITHOUT_ENDS, FOUR_WITHOUT_MIDDLE, FULL_FIVE, FULL_FOUR, TRIANGLE, VERY_GREAT, Case,
                           all_pairs, plain_closed, plain_open, row_of, shuffled)


def hung(web, part):
    """The web with a part hung to its last place, which is a place of both."""
    return row_of([web, part])


class EveryWayTest(Case):
    def test_sorted_as_lists(self):
        self.tells([[0, 1], [2]], every_way, (3, [(0, 1), (1, 2), (0, 2)]), 0, 2)
        self.tells([[0], [1, 2]], every_way, (3, [(0, 2), (1, 2), (0, 1)]), 2, 0)

    def test_numbers_are_no_texts(self):
        web = (8, [(0, k) for k in range(2, 8)] + [(1, k) for k in range(2, 8)])
        self.tells([[k, k + 6] for k in range(6)], every_way, web, 0, 1)
        web = (7, [(2, 6), (1, 2), (1, 3), (1, 4), (1, 5), (2, 3), (2, 4), (2, 5), (3, 4), (3, 5), (0, 6), (0, 1)])
        sets = every_way(web, 0, 2)
        self.assertEqual(sets, sorted(roads for places, roads in plain_open(web, 0, 2)))
        self.assertEqual(sets[0], [0, 10])
        self.assertEqual(sets[-1], [4, 7, 11])

    def test_none(self):
        self.tells([], every_way, (2, []), 0, 1)
        self.tells([], every_way, (4, [(0, 1), (2, 3)]), 0, 3)
        self.tells([], every_way, (3, [(0, 1)]), 2, 0)

    def test_small_webs(self):
        source = random.Random(11)
        for nothing in range(60):
            places = source.randint(2, 6)
            web = (places, source.sample(all_pairs(places), source.randint(0, len(all_pairs(places)))))
            one, other = source.sample(range(places), 2)
            sets = sorted(roads for way, roads in plain_open(web, one, other))
            self.tells(sets, every_way, web, one, other)

    def test_the_same_ways_from_either_end(self):
        web = grid(3, 4)
        self.assertEqual(every_way(web, 0, 11), every_way(web, 11, 0))
        self.assertEqual(len(every_way(web, 0, 11)), 38)

    def test_the_same_ways_whatever_order_the_roads_stand_in(self):
        web = grid(4, 3)
        ways = sorted(way_of(web, 1, 10, roads) for roads in every_way(web, 1, 10))
        for seed in range(5):
            order = random.Random(seed).sample(range(17), 17)
            other = reordered(web, order)
            sets = every_way(other, 1, 10)
            self.assertEqual(sets, sorted(sets))
            self.assertEqual(sorted(way_of(other, 1, 10, roads) for roads in sets), ways)

    def test_just_three_hundred_and_one_more(self):
        row = row_of([FULL_FOUR, FULL_FOUR, FOUR_WITHOUT_ENDS, FOUR_WITHOUT_MIDDLE])
        self.assertEqual((row[0], len(row[1])), (13, 22))
        for seed in range(4):
            web = shuffled(row, seed)
            sets = every_way(web, 0, 12)
            self.assertEqual(len(sets), 300)
            self.assertEqual(sets, sorted(sets))
            self.assertEqual(len(set(map(tuple, sets))), 300)
            for roads in sets:
                self.assertEqual(roads_of(web, way_of(web, 0, 12, roads)), roads)
            for where in range(23):
                more = (13, web[1][:where] + [(0, 12)] + web[1][where:])
                self.refuses(TooMany, every_way, more, 0, 12)
                self.refuses(TooMany, every_way, more, 12, 0)
            self.tells(sets, every_way, web, 12, 0)

    def test_sixteen_places_and_thirty_roads(self):
        web = shuffled(row_of([FULL_FOUR] * 5), 1)
        self.assertEqual((web[0], len(web[1])), (16, 30))
        sets = every_way(web, 3, 6)
        self.assertEqual(len(sets), 5)
        for roads in sets:
            self.assertEqual(roads_of(web, way_of(web, 3, 6, roads)), roads)
        self.assertEqual(len(every_way(web, 0, 9)), 125)
        self.refuses(TooMany, every_way, web, 0, 15)

    def test_few_ways_beside_many_roads(self):
        web = (16, all_pairs(8) + [(0, 8), (8, 9)])
        self.tells([[28, 29]], every_way, web, 0, 9)
        self.tells([], every_way, (16, all_pairs(8) + [(8, 9), (9, 10)]), 0, 9)
        self.tells([[28]], every_way, (16, all_pairs(8) + [(8, 9), (9, 10)]), 9, 8)

    def test_many_ways(self):
        source = random.Random(3)
        ring = [(k, k + 1) for k in range(15)] + [(0, 15)]
        others = [road for road in all_pairs(16) if road not in ring]
        for nothing in range(10):
            web = (16, source.sample(ring + source.sample(others, 14), 30))
            self.refuses(TooMany, every_way, web, 0, 8)
            self.refuses(TooMany, every_closed, web)
        self.refuses(TooMany, every_way, grid(5, 5), 0, 24)

    def test_wrong_ends_ahead_of_too_many(self):
        for web in ((8, all_pairs(8)), (8, [])):
            for one, other in ((-1, 0), (0, -1), (8, 0), (0, 8), (3, 3), (8, 8), (-1, -1), (VERY_GREAT, 0),
                               (0, -VERY_GREAT)):
                self.refuses(NoEnds, every_way, web, one, other)
        self.refuses(NoEnds, every_way, (1, []), 0, 0)


class EveryClosedTest(Case):
    def test_sorted_as_lists(self):
        web = (4, [(0, 1), (1, 2), (2, 3), (0, 3), (0, 2)])
        self.tells([[0, 1, 2, 3], [0, 1, 4], [2, 3, 4]], every_closed, web)

    def test_none(self):
        self.tells([], every_closed, (1, []))
        self.tells([], every_closed, (2, [(0, 1)]))
        self.tells([], every_closed, (5, [(0, 1), (1, 2), (2, 3), (1, 4)]))

    def test_small_webs(self):
        source = random.Random(12)
        for nothing in range(60):
            places = source.randint(3, 6)
            web = (places, source.sample(all_pairs(places), source.randint(0, len(all_pairs(places)))))
            self.tells(sorted(roads for way, roads in plain_closed(web)), every_closed, web)

    def test_grids(self):
        for rows, columns, many in ((1, 5, 0), (2, 2, 1), (2, 4, 6), (3, 3, 13), (4, 4, 213)):
            self.assertEqual(len(every_closed(grid(rows, columns))), many)

    def test_the_same_ways_whatever_order_the_roads_stand_in(self):
        web = grid(4, 3)
        ways = sorted(closed_of(web, roads) for roads in every_closed(web))
        for seed in range(5):
            order = random.Random(seed).sample(range(17), 17)
            other = reordered(web, order)
            sets = every_closed(other)
            self.assertEqual(sets, sorted(sets))
            self.assertEqual(sorted(closed_of(other, roads) for roads in sets), ways)

    def test_just_three_hundred_and_one_more(self):
        row = row_of([FOUR_WITHOUT_ENDS, FOUR_WITHOUT_ENDS, FULL_FIVE])
        ring = (row[0], row[1] + [(0, row[0] - 1)])
        just = hung(ring, TRIANGLE)
        more = hung(just, TRIANGLE)
        for seed in range(6):
            web = shuffled(just, seed)
            sets = every_closed(web)
            self.assertEqual(len(sets), 300)
            self.assertEqual(sets, sorted(sets))
            self.assertEqual(len(set(map(tuple, sets))), 300)
            for roads in sets:
                self.assertEqual(roads_of(web, closed_of(web, roads), True), roads)
            self.tells(sets, every_closed, web)
            self.refuses(TooMany, every_closed, shuffled(more, seed))
        self.refuses(TooMany, every_closed, more)

    def test_sixteen_places_and_thirty_roads(self):
        web = shuffled(row_of([FULL_FOUR] * 5), 2)
        sets = every_closed(web)
        self.assertEqual(len(sets), 35)
        self.assertEqual(sets, sorted(sets))
        for roads in sets:
            self.assertEqual(roads_of(web, closed_of(web, roads), True), roads)
        self.refuses(TooMany, every_closed, (16, all_pairs(8) + [(0, 8), (8, 9)]))
