from onceways.counts import by_length, closed_by_length, count, count_closed
from onceways.errors import NoEnds
from onceways.webs import grid
from tests.support import (FULL_FOUR, Case, all_pairs, gone_closed, gone_sets, plain_closed, plain_open, random_webs,
                           ringed_web, row_of, shuffled, wrong_ends)


def lengths(sets, many):
    """How many of the sets have 0, 1, 2 .. roads, so many numbers."""
    return [sum(len(roads) == size for roads in sets) for size in range(many)]


def fresh(web):
    return (web[0], list(web[1]))


class CountTest(Case):
    def test_ordinary(self):
        web = (4, [(0, 1), (1, 2), (2, 3), (0, 2)])
        self.tells(2, count, fresh(web), 0, 3)
        self.tells([0, 0, 1, 1], by_length, fresh(web), 0, 3)
        self.tells([0, 1, 1, 0], by_length, fresh(web), 0, 1)
        self.tells([0, 1, 1, 0], by_length, fresh(web), 1, 0)

    def test_none(self):
        self.tells(0, count, (2, []), 0, 1)
        self.tells([0, 0], by_length, (2, []), 1, 0)
        self.tells(0, count, (5, [(0, 1), (2, 3), (3, 4)]), 0, 4)
        self.tells([0, 0, 0, 0, 0], by_length, (5, [(0, 1), (2, 3), (3, 4)]), 0, 4)
        self.tells([0, 0, 0], by_length, (3, [(0, 1)]), 2, 0)

    def test_as_many_numbers_as_places(self):
        self.tells([0, 1], by_length, (2, [(0, 1)]), 0, 1)
        self.tells([0, 1] + [0] * 14, by_length, (16, [(3, 7)]), 7, 3)
        self.tells([0] * 15 + [1], by_length, (16, [(k, k + 1) for k in range(15)]), 0, 15)

    def test_small_webs(self):
        for web in random_webs(31, 60):
            for one, other in ((0, 1), (2, 0)):
                sets = [roads for places, roads in plain_open(web, one, other)]
                self.tells(len(sets), count, fresh(web), one, other)
                self.tells(lengths(sets, web[0]), by_length, fresh(web), one, other)

    def test_full_webs(self):
        for places, many in ((2, 1), (3, 2), (4, 5), (5, 16), (6, 65), (7, 326), (8, 1957)):
            self.assertEqual(count((places, all_pairs(places)), 0, places - 1), many)
        self.assertEqual(by_length((8, all_pairs(8)), 3, 4), [0, 1, 6, 30, 120, 360, 720, 720])

    def test_grids(self):
        for side, many in ((2, 2), (3, 12), (4, 184)):
            self.assertEqual(count(grid(side, side), 0, side * side - 1), many)

    def test_far_more_than_three_hundred(self):
        web = row_of([FULL_FOUR] * 5)
        for seed in range(3):
            self.tells(5 ** 5, count, shuffled(web, seed), 0, 15)
            told = by_length(shuffled(web, seed), 15, 0)
            # Along each part there are one way of one road, two of two and two of three.
            self.assertEqual(told, [0] * 5 + [1, 10, 50, 160, 360, 592, 720, 640, 400, 160, 32])

    def test_sixteen_places_and_thirty_roads(self):
        for seed in range(4):
            web = ringed_web(seed)
            sets = gone_sets(web, 2, 9)
            self.assertGreater(len(sets), 300)
            self.tells(len(sets), count, fresh(web), 2, 9)
            self.tells(lengths(sets, 16), by_length, fresh(web), 9, 2)

    def test_whatever_order_the_roads_stand_in(self):
        web = ringed_web(9)
        told = by_length(web, 0, 8)
        for seed in range(10):
            other = shuffled(web, seed)
            self.assertEqual(count(other, 0, 8), sum(told))
            self.assertEqual(by_length(other, 0, 8), told)

    def test_no_ends(self):
        for web in ((4, [(0, 1), (1, 2), (2, 3)]), (4, []), (1, [])):
            for one, other in wrong_ends(web):
                self.refuses(NoEnds, count, web, one, other)
                self.refuses(NoEnds, by_length, web, one, other)


class CountClosedTest(Case):
    def test_ordinary(self):
        web = (4, [(0, 1), (1, 2), (2, 3), (0, 3), (0, 2)])
        self.tells(3, count_closed, fresh(web))
        self.tells([0, 0, 0, 2, 1], closed_by_length, fresh(web))

    def test_none(self):
        self.tells(0, count_closed, (1, []))
        self.tells([0, 0], closed_by_length, (1, []))
        self.tells(0, count_closed, (5, [(0, 1), (1, 2), (2, 3), (1, 4)]))
        self.tells([0] * 6, closed_by_length, (5, [(0, 1), (1, 2), (2, 3), (1, 4)]))
        self.tells([0, 0, 0], closed_by_length, (2, [(0, 1)]))

    def test_one_number_more_than_places(self):
        self.tells([0] * 16 + [1], closed_by_length, (16, [(k, k + 1) for k in range(15)] + [(0, 15)]))
        self.tells([0, 0, 0, 1, 0, 0], closed_by_length, (5, [(1, 2), (1, 3), (2, 3)]))

    def test_small_webs(self):
        for web in random_webs(32, 60):
            sets = [roads for places, roads in plain_closed(web)]
            self.tells(len(sets), count_closed, fresh(web))
            self.tells(lengths(sets, web[0] + 1), closed_by_length, fresh(web))

    def test_pieces_apart(self):
        web = (7, [(0, 1), (0, 2), (1, 2), (3, 4), (3, 5), (4, 6), (5, 6)])
        self.tells(2, count_closed, fresh(web))
        self.tells([0, 0, 0, 1, 1, 0, 0, 0], closed_by_length, fresh(web))

    def test_full_webs_and_grids(self):
        for places, many in ((3, 1), (4, 7), (5, 37), (6, 197), (7, 1172), (8, 8018)):
            self.assertEqual(count_closed((places, all_pairs(places))), many)
        for side, many in ((1, 0), (2, 1), (3, 13), (4, 213)):
            self.assertEqual(count_closed(grid(side, side)), many)

    def test_sixteen_places_and_thirty_roads_in_any_order(self):
        for seed in range(3):
            web = ringed_web(seed)
            sets = gone_closed(web)
            self.assertGreater(len(sets), 300)
            for order in range(3):
                self.tells(len(sets), count_closed, shuffled(web, order))
                self.tells(lengths(sets, 17), closed_by_length, shuffled(web, order))
