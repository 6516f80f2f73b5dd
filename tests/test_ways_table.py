import random

from onceways.errors import NoEnds, TooMany
from onceways.tables import closed_table, has_set, is_least, sets_of, ways_table
from onceways.webs import grid, reordered
from onceways.ways import closed_of, every_closed, every_way, way_of
from tests.support import (FULL_FOUR, TRIANGLE, Case, all_pairs, gone_closed, gone_sets, plain_closed, plain_open,
                           plain_table, random_webs, ringed_web, row_of, shuffled, wrong_ends)


def fresh(web):
    return (web[0], list(web[1]))


class WaysTableTest(Case):
    def test_ordinary(self):
        web = (4, [(0, 1), (1, 2), (2, 3), (0, 2)])
        self.tells((2, [(0, 3, 4), (2, 0, 5), (1, 0, 6), (3, 0, 1), (2, 0, 1)]), ways_table, fresh(web), 0, 3)
        self.tells((2, [(0, 3, 1), (1, 0, 4), (3, 0, 1)]), ways_table, fresh(web), 1, 0)

    def test_none(self):
        self.tells((0, []), ways_table, (2, []), 0, 1)
        self.tells((0, []), ways_table, (4, [(0, 1), (2, 3)]), 0, 3)
        self.tells((0, []), ways_table, (3, [(0, 1)]), 2, 0)

    def test_one_road(self):
        self.tells((2, [(0, 0, 1)]), ways_table, (2, [(0, 1)]), 1, 0)
        self.tells((2, [(1, 0, 1)]), ways_table, (4, [(0, 1), (2, 3)]), 2, 3)

    def test_small_webs(self):
        for web in random_webs(51, 60):
            for one, other in ((0, 1), (2, 0)):
                sets = [roads for places, roads in plain_open(web, one, other)]
                self.tells(plain_table(sets), ways_table, fresh(web), one, other)

    def test_in_any_order_of_the_roads(self):
        web = grid(4, 3)
        ways = sorted(way_of(web, 1, 10, roads) for roads in every_way(web, 1, 10))
        for seed in range(10):
            other = reordered(web, random.Random(seed).sample(range(17), 17))
            table = ways_table(other, 1, 10)
            self.assertEqual(table, plain_table(every_way(other, 1, 10)))
            self.assertEqual(sorted(way_of(other, 1, 10, roads) for roads in sets_of(table)), ways)

    def test_either_end_first(self):
        for seed in range(3):
            web = ringed_web(seed, 22)
            self.assertEqual(ways_table(web, 3, 11), ways_table(web, 11, 3))

    def test_grids(self):
        for rows, columns in ((1, 5), (2, 2), (2, 8), (3, 5), (4, 4)):
            web = grid(rows, columns)
            self.tells(plain_table(gone_sets(web, 0, web[0] - 1)), ways_table, fresh(web), 0, web[0] - 1)

    def test_sixteen_places_and_thirty_roads(self):
        told = 0
        for seed in range(12):
            for web in (ringed_web(seed), shuffled(row_of([FULL_FOUR] * 5), seed)):
                for one, other in ((0, 1), (4, 15), (0, 15)):
                    told += self.told_or_refused(plain_table(gone_sets(web, one, other)), web, one, other)
        self.assertGreater(told, 15)
        self.assertLess(told, 72)

    def told_or_refused(self, table, web, one, other):
        if len(table[1]) > 800:
            self.refuses(TooMany, ways_table, web, one, other)
            return False
        self.assertEqual(ways_table(web, one, other), table)
        self.assertIs(is_least(web, table), True)
        return True

    def test_more_than_three_hundred_ways_are_not_refused(self):
        web = row_of([FULL_FOUR] * 5)
        sets = gone_sets(web, 0, 15)
        self.assertEqual((len(sets), len(plain_table(sets)[1])), (3125, 35))
        self.tells(plain_table(sets), ways_table, fresh(web), 0, 15)
        table = ways_table(web, 0, 15)
        self.assertTrue(all(has_set(table, roads) for roads in sets))
        self.refuses(TooMany, sets_of, table)

    def test_just_eight_hundred_nodes_and_one_more(self):
        web = ringed_web(66, 25)
        self.assertEqual(len(plain_table(gone_sets(web, 0, 8))[1]), 800)
        self.tells(plain_table(gone_sets(web, 0, 8)), ways_table, fresh(web), 0, 8)
        for seed in (290, 328):
            web = ringed_web(seed, 27)
            self.assertEqual(len(plain_table(gone_sets(web, 0, 8))[1]), 801)
            self.refuses(TooMany, ways_table, web, 0, 8)

    def test_few_ways_beside_many_roads(self):
        web = (16, all_pairs(8) + [(0, 8), (8, 9)])
        self.tells((2, [(28, 0, 3), (29, 0, 1)]), ways_table, web, 0, 9)
        self.tells((0, []), ways_table, (16, all_pairs(8) + [(8, 9), (9, 10)]), 0, 9)

    def test_no_ends_ahead_of_too_many(self):
        for web in (ringed_web(1), (4, [(0, 1), (1, 2), (2, 3)]), (4, []), (1, [])):
            for one, other in wrong_ends(web):
                self.refuses(NoEnds, ways_table, web, one, other)


class ClosedTableTest(Case):
    def test_ordinary(self):
        web = (4, [(0, 1), (1, 2), (2, 3), (0, 3), (0, 2)])
        self.tells(plain_table([[0, 1, 2, 3], [0, 1, 4], [2, 3, 4]]), closed_table, fresh(web))
        self.tells((2, [(0, 0, 3), (1, 0, 4), (2, 0, 1)]), closed_table, fresh(TRIANGLE))

    def test_none(self):
        self.tells((0, []), closed_table, (1, []))
        self.tells((0, []), closed_table, (2, [(0, 1)]))
        self.tells((0, []), closed_table, (5, [(0, 1), (1, 2), (2, 3), (1, 4)]))

    def test_small_webs(self):
        for web in random_webs(52, 60):
            sets = [roads for places, roads in plain_closed(web)]
            self.tells(plain_table(sets), closed_table, fresh(web))

    def test_pieces_apart(self):
        web = (7, [(0, 1), (3, 4), (0, 2), (3, 5), (1, 2), (4, 6), (5, 6)])
        self.tells(plain_table([[0, 2, 4], [1, 3, 5, 6]]), closed_table, web)

    def test_in_any_order_of_the_roads(self):
        web = grid(4, 3)
        ways = sorted(closed_of(web, roads) for roads in every_closed(web))
        for seed in range(10):
            other = reordered(web, random.Random(seed).sample(range(17), 17))
            table = closed_table(other)
            self.assertEqual(table, plain_table(every_closed(other)))
            self.assertEqual(sorted(closed_of(other, roads) for roads in sets_of(table)), ways)

    def test_sixteen_places_and_thirty_roads(self):
        told = 0
        for seed in range(6):
            for web in (ringed_web(seed), shuffled(row_of([FULL_FOUR] * 5), seed), row_of([FULL_FOUR] * 5)):
                table = plain_table(gone_closed(web))
                if len(table[1]) > 800:
                    self.refuses(TooMany, closed_table, web)
                else:
                    told += 1
                    self.tells(table, closed_table, fresh(web))
        self.assertGreater(told, 5)
        self.assertLess(told, 18)

    def test_more_than_three_hundred_ways_are_not_refused(self):
        web = (7, all_pairs(7))
        sets = gone_closed(web)
        self.assertEqual(len(sets), 1172)
        self.tells(plain_table(sets), closed_table, fresh(web))

    def test_just_eight_hundred_nodes_and_one_more(self):
        web = ringed_web(49, 24)
        self.assertEqual(len(plain_table(gone_closed(web))[1]), 800)
        self.tells(plain_table(gone_closed(web)), closed_table, fresh(web))
        for seed, roads in ((352, 25), (273, 26)):
            web = ringed_web(seed, roads)
            self.assertEqual(len(plain_table(gone_closed(web))[1]), 801)
            self.refuses(TooMany, closed_table, web)
