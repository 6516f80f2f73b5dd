import copy
import itertools
import random

from onceways.counts import count
from onceways.errors import NoNumber, NoWay
from onceways.joined import first_without
from onceways.numbers import beginning_with, how_many, how_many_with, number_of_set, set_by_number
from onceways.tables import closed_table, sets_of, ways_table
from onceways.webs import grid
from tests.support import (ALL_SETS, FULL_FOUR, VERY_GREAT, Case, all_sets, gone_sets, plain_table, random_family,
                           row_of)

NONE = (0, [])
EMPTY_ALONE = (1, [])


def families():
    source = random.Random(91)
    yield from ([], [[]], [[0]], [[], [0]], [[29]], [[0, 1], [0, 2], [1]], all_sets(4))
    for roads in (3, 5, 9, 30):
        for nothing in range(8):
            yield random_family(source, roads, source.randint(1, 40))


class HowManyTest(Case):
    def test_by_trial(self):
        for sets in families():
            self.tells(len(sets), how_many, plain_table(sets))
            for road in range(30):
                self.tells(sum(road in roads for roads in sets), how_many_with, plain_table(sets), road)

    def test_none_and_the_set_without_roads_alone(self):
        self.tells(0, how_many, (0, []))
        self.tells(1, how_many, (1, []))
        for road in (0, 3, 29):
            self.tells(0, how_many_with, (0, []), road)
            self.tells(0, how_many_with, (1, []), road)

    def test_a_road_of_none_some_and_all(self):
        sets = [[1, 4], [4], [1, 2, 4]]
        for road, many in ((0, 0), (1, 2), (2, 1), (3, 0), (4, 3), (5, 0), (29, 0)):
            self.tells(many, how_many_with, plain_table(sets), road)

    def test_very_many(self):
        self.tells(2 ** 30, how_many, copy.deepcopy(ALL_SETS))
        for road in range(30):
            self.tells(2 ** 29, how_many_with, copy.deepcopy(ALL_SETS), road)
        self.tells(0, how_many_with, copy.deepcopy(ALL_SETS), 30)

    def test_ways(self):
        web = row_of([FULL_FOUR] * 5)
        table = ways_table(web, 0, 15)
        self.assertEqual(how_many(table), 3125)
        self.assertEqual(how_many(table), count(web, 0, 15))
        sets = gone_sets(web, 0, 15)
        for road in range(30):
            self.assertEqual(how_many_with(table, road), sum(road in roads for roads in sets))


class SetByNumberTest(Case):
    def test_the_set_without_roads_first_then_by_the_least_road(self):
        sets = [[], [0], [0, 1], [0, 1, 2], [0, 2], [1], [1, 2], [2]]
        for number, roads in enumerate(sets):
            self.tells(roads, set_by_number, plain_table(all_sets(3)), number)
            self.tells(number, number_of_set, plain_table(all_sets(3)), roads)

    def test_there_and_back(self):
        for sets in families():
            table = plain_table(sets)
            before = copy.deepcopy(table)
            for number, roads in enumerate(sorted(sets)):
                self.assertEqual(set_by_number(table, number), roads)
                self.assertEqual(number_of_set(table, roads), number)
                set_by_number(table, number).append(7)
            self.assertEqual(table, before)

    def test_as_they_stand_in_the_list_of_all(self):
        for table in (ways_table(grid(4, 4), 0, 15), closed_table(grid(3, 4))):
            sets = sets_of(table)
            self.assertEqual([set_by_number(table, number) for number in range(len(sets))], sets)
            self.assertEqual([number_of_set(table, roads) for roads in sets], list(range(len(sets))))

    def test_tables_of_very_many_sets(self):
        source = random.Random(92)
        fewer = first_without(ALL_SETS, plain_table([[], [0, 5], [29]]))
        for table, many in ((ALL_SETS, 2 ** 30), (fewer, 2 ** 30 - 3)):
            self.assertEqual(how_many(table), many)
            for number in [0, 1, 2, many - 1, many - 2] + [source.randrange(many) for nothing in range(200)]:
                roads = set_by_number(table, number)
                self.assertEqual(number_of_set(table, roads), number)
                if number:
                    self.assertLess(set_by_number(table, number - 1), roads)
            for number in (-1, many, many + 1):
                self.refuses(NoNumber, set_by_number, table, number)
        self.tells([], set_by_number, copy.deepcopy(ALL_SETS), 0)
        self.tells([0], set_by_number, copy.deepcopy(ALL_SETS), 1)
        self.tells(list(range(30)), set_by_number, copy.deepcopy(ALL_SETS), 30)
        self.tells([0, 29], set_by_number, copy.deepcopy(ALL_SETS), 2 ** 29)
        self.tells([1], set_by_number, copy.deepcopy(ALL_SETS), 2 ** 29 + 1)
        self.tells([29], set_by_number, copy.deepcopy(ALL_SETS), 2 ** 30 - 1)

    def test_more_than_three_hundred_ways(self):
        web = row_of([FULL_FOUR] * 5)
        table = ways_table(web, 0, 15)
        for number, roads in enumerate(gone_sets(web, 0, 15)):
            self.assertEqual(set_by_number(table, number), roads)
            self.assertEqual(number_of_set(table, roads), number)

    def test_no_number(self):
        for sets in families():
            for number in (-1, -len(sets), -len(sets) - 1, len(sets), len(sets) + 1, VERY_GREAT, -VERY_GREAT):
                if not 0 <= number < len(sets):
                    self.refuses(NoNumber, set_by_number, plain_table(sets), number)
        for number in (-1, 0, 1):
            self.refuses(NoNumber, set_by_number, NONE, number)
        self.tells([], set_by_number, (1, []), 0)
        self.refuses(NoNumber, set_by_number, EMPTY_ALONE, 1)
        self.refuses(NoNumber, set_by_number, EMPTY_ALONE, -1)


class NumberOfSetTest(Case):
    def test_what_is_no_set_of_the_table(self):
        for sets in ([], [[]], [[0, 1, 3], [1], []], [[0, 1, 3], [1]], all_sets(4)):
            table = plain_table(sets)
            for size in range(5):
                for roads in map(list, itertools.product(range(-2, 5), repeat=size)):
                    if roads in sets:
                        self.assertEqual(number_of_set(table, roads), sorted(sets).index(roads))
                    else:
                        self.refuses(NoWay, number_of_set, table, roads)

    def test_not_rising_twice_below_nought_and_far_off(self):
        table = plain_table([[0, 1, 3], [1], []])
        for roads in ([3, 1, 0], [0, 3, 1], [0, 1, 1, 3], [0, 0, 1, 3], [0, 1, 3, 3], [-1], [-1, 1], [0, 1],
                      [0, 1, 3, 4], [1, 3], [VERY_GREAT], [-VERY_GREAT], [0, 1, 3, VERY_GREAT], [-VERY_GREAT, 1]):
            self.refuses(NoWay, number_of_set, table, roads)
        for roads in ([0], [-1], [0, 0]):
            self.refuses(NoWay, number_of_set, EMPTY_ALONE, roads)
        for roads in ([], [0]):
            self.refuses(NoWay, number_of_set, NONE, roads)
        for roads in ([30], [0, 30], [1, 0], [29, 29], [-1, 0]):
            self.refuses(NoWay, number_of_set, ALL_SETS, roads)


class BeginningWithTest(Case):
    def test_all(self):
        for sets in families():
            self.tells(len(sets), beginning_with, plain_table(sets), [])

    def test_by_trial(self):
        for sets in families():
            table = plain_table(sets)
            for roads in all_sets(5):
                many = sum(others[:len(roads)] == roads for others in sets)
                self.assertEqual(beginning_with(table, roads), many)

    def test_beginnings_whole_sets_and_others(self):
        sets = [[0, 2, 5], [0, 2], [0, 3], [2, 5], [0]]
        for roads, many in (([], 5), ([0], 4), ([0, 2], 2), ([0, 2, 5], 1), ([2], 1), ([2, 5], 1), ([0, 3], 1),
                            ([0, 5], 0), ([5], 0), ([1], 0), ([0, 1], 0), ([0, 2, 5, 6], 0), ([3], 0), ([29], 0),
                            ([0, 2, 3], 0)):
            self.tells(many, beginning_with, plain_table(sets), roads)

    def test_very_many(self):
        self.tells(2 ** 30, beginning_with, copy.deepcopy(ALL_SETS), [])
        self.tells(2 ** 29, beginning_with, copy.deepcopy(ALL_SETS), [0])
        self.tells(1, beginning_with, copy.deepcopy(ALL_SETS), [29])
        self.tells(2 ** 9, beginning_with, copy.deepcopy(ALL_SETS), [3, 7, 20])
        self.tells(0, beginning_with, copy.deepcopy(ALL_SETS), [3, 30])

    def test_none_and_the_set_without_roads_alone(self):
        self.tells(0, beginning_with, (0, []), [])
        self.tells(0, beginning_with, (0, []), [0])
        self.tells(1, beginning_with, (1, []), [])
        self.tells(0, beginning_with, (1, []), [0])
