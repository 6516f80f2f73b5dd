import copy
import itertools
import random

from onceways.errors import TooMany
from onceways.tables import closed_table, has_set, is_least, sets_of, table_of, ways_table
from onceways.webs import grid
from tests.support import (ALL_SETS, VERY_GREAT, Case, all_pairs, all_sets, family_with, plain_table, random_family,
                           ringed_web)

# A web whose roads are numbered 0 to 4, one whose are 0 to 29, and a table of roads below 5 that is least.
FIVE_ROADS = (4, [(0, 1), (0, 2), (1, 2), (1, 3), (2, 3)])
THIRTY_ROADS = (16, all_pairs(16)[:30])
LEAST = (2, [(0, 3, 4), (1, 1, 4), (2, 5, 6), (3, 0, 1), (4, 1, 1)])


def paths(nodes, number):
    """The sets of a node as the document tells them."""
    if number < 2:
        return [[]] * number
    road, low, high = nodes[number - 2]
    return paths(nodes, low) + [[road] + roads for roads in paths(nodes, high)]


class TableOfTest(Case):
    def test_no_set(self):
        self.tells((0, []), table_of, [])

    def test_the_set_without_roads_alone(self):
        self.tells((1, []), table_of, [[]])
        self.tells((1, []), table_of, [[], [], []])

    def test_one_set(self):
        self.tells((2, [(7, 0, 1)]), table_of, [[7]])
        self.tells((2, [(0, 0, 3), (4, 0, 4), (29, 0, 1)]), table_of, [[0, 4, 29]])

    def test_low_ahead_of_high(self):
        self.tells((2, [(0, 3, 4), (1, 0, 1), (2, 0, 1)]), table_of, [[0, 2], [1]])
        self.tells((2, [(0, 3, 4), (1, 1, 5), (1, 1, 1), (2, 0, 1)]), table_of, [[], [0], [0, 1], [1, 2]])

    def test_like_nodes_are_one(self):
        self.tells((2, [(0, 3, 3), (1, 1, 1)]), table_of, [[], [0], [1], [0, 1]])
        self.tells((2, [(0, 3, 4), (1, 4, 4), (2, 0, 1)]), table_of, [[0, 2], [1, 2], [2]])

    def test_in_any_order_and_some_twice(self):
        sets = [[], [0, 2], [1], [1, 2, 3], [3]]
        table = plain_table(sets)
        for order in itertools.permutations(sets):
            self.tells(copy.deepcopy(table), table_of, [list(roads) for roads in order])
            self.assertEqual(table_of(list(order) + [[1], [], [0, 2]]), table)
            self.assertEqual(table_of([[3], *order, [1, 2, 3], [3]]), table)

    def test_every_family_of_three_roads(self):
        sets = all_sets(3)
        for size in range(9):
            for some in itertools.combinations(sets, size):
                self.tells(plain_table(some), table_of, [list(roads) for roads in some])

    def test_many_families(self):
        source = random.Random(41)
        for roads in (5, 8, 12, 30):
            for many in (1, 3, 10, 25):
                for nothing in range(6):
                    sets = random_family(source, roads, many)
                    table = table_of(sets)
                    self.assertEqual(table, plain_table(sets))
                    self.assertIs(is_least(THIRTY_ROADS, table), True)
                    self.assertEqual(sorted(paths(table[1], table[0])), sets)

    def test_three_hundred_sets(self):
        sets = [[a, b] for a, b in all_pairs(25)]
        self.assertEqual(len(sets), 300)
        self.tells(plain_table(sets), table_of, sets)

    def test_all_sets_of_eight_roads(self):
        self.tells((2, [(k, k + 3, k + 3) for k in range(7)] + [(7, 1, 1)]), table_of, all_sets(8))

    def test_just_eight_hundred_nodes_and_more(self):
        self.tells(plain_table(family_with(800)), table_of, family_with(800))
        self.tells(plain_table(family_with(799)), table_of, family_with(799))
        self.refuses(TooMany, table_of, family_with(801))
        self.refuses(TooMany, table_of, family_with(850))
        self.refuses(TooMany, table_of, random_family(random.Random(2), 30, 300))


class IsLeastTest(Case):
    def least(self, answer, table, web=FIVE_ROADS):
        self.tells(answer, is_least, (web[0], list(web[1])), copy.deepcopy(table))

    def test_a_least_one(self):
        self.least(True, LEAST)
        self.assertEqual(plain_table(paths(LEAST[1], 2)), LEAST)
        self.least(True, (2, [(4, 0, 1)]))
        self.least(True, (2, [(4, 1, 1)]))

    def test_nought_and_one(self):
        for web in (FIVE_ROADS, (1, [])):
            self.least(True, (0, []), web)
            self.least(True, (1, []), web)
        for nodes in ([(4, 0, 1)], LEAST[1]):
            self.least(False, (0, nodes))
            self.least(False, (1, nodes))

    def test_a_road_that_does_not_rise(self):
        self.least(False, (2, [(1, 0, 3), (1, 0, 1)]))
        self.least(False, (2, [(1, 3, 1), (1, 0, 1)]))
        self.least(False, (2, [(2, 3, 1), (1, 0, 1)]))
        self.least(False, (2, [(2, 0, 3), (1, 0, 1)]))
        self.least(True, (2, [(0, 0, 3), (1, 0, 1)]))

    def test_a_high_that_is_nought(self):
        self.least(False, (2, [(0, 1, 0)]))
        self.least(False, (2, [(0, 0, 0)]))
        self.least(False, (2, [(0, 3, 0), (1, 0, 1)]))
        self.least(False, (2, [(0, 0, 3), (1, 1, 0)]))

    def test_a_node_twice(self):
        self.least(False, (2, [(0, 3, 4), (1, 0, 1), (1, 0, 1)]))
        self.least(True, (2, [(0, 3, 3), (1, 0, 1)]))

    def test_a_node_that_is_not_come_to(self):
        self.least(False, (2, [(0, 0, 1), (1, 0, 1)]))
        self.least(False, (3, [(0, 0, 1), (1, 0, 1)]))
        self.least(False, (2, LEAST[1] + [(4, 0, 1)]))
        self.least(False, (3, LEAST[1]))

    def test_nodes_in_another_order(self):
        self.least(False, (2, [(0, 4, 3), (2, 0, 1), (1, 0, 1)]))
        self.least(True, (2, [(0, 3, 4), (1, 0, 1), (2, 0, 1)]))
        self.least(False, (3, [(1, 0, 1), (0, 0, 2)]))

    def test_every_other_numbering_of_a_least_one(self):
        root, nodes = LEAST
        for order in itertools.permutations(range(5)):
            numbers = {0: 0, 1: 1, **{order[k] + 2: k + 2 for k in range(5)}}
            renumbered = [(nodes[k][0], numbers[nodes[k][1]], numbers[nodes[k][2]]) for k in order]
            self.least(order == (0, 1, 2, 3, 4), (numbers[root], renumbered))

    def test_a_road_that_is_none_of_the_webs(self):
        self.least(False, (2, [(5, 0, 1)]))
        self.least(False, (2, [(0, 0, 3), (5, 0, 1)]))
        self.least(False, (2, [(0, 0, 1)]), (3, []))
        self.least(False, LEAST, (4, FIVE_ROADS[1][:4]))
        self.least(False, (2, [(VERY_GREAT, 0, 1)]))

    def test_numbers_below_nought(self):
        self.least(False, (-1, []))
        self.least(False, (-1, LEAST[1]))
        self.least(False, (-5, LEAST[1]))
        self.least(False, (2, [(-1, 0, 1)]))
        self.least(False, (2, [(-5, 3, 1), (0, 0, 1)]))
        self.least(False, (2, [(0, -1, 1)]))
        self.least(False, (2, [(0, 0, -1)]))
        self.least(False, (-VERY_GREAT, [(-VERY_GREAT, -VERY_GREAT, -VERY_GREAT)]))

    def test_a_number_that_names_no_node(self):
        self.least(False, (2, []))
        self.least(False, (3, [(0, 0, 1)]))
        self.least(False, (7, LEAST[1]))
        self.least(False, (2, [(0, 3, 1)]))
        self.least(False, (2, [(0, 0, 3)]))
        self.least(False, (VERY_GREAT, LEAST[1]))
        self.least(False, (2, [(0, VERY_GREAT, 1)]))

    def test_nodes_that_lead_round(self):
        self.least(False, (2, [(0, 2, 1)]))
        self.least(False, (2, [(0, 0, 2)]))
        self.least(False, (2, [(0, 3, 1), (1, 2, 1)]))
        self.least(False, (2, [(0, 0, 3), (1, 0, 2)]))
        self.least(False, (2, [(0, 3, 4), (1, 4, 1), (2, 3, 1)]))
        self.least(False, (2, [(0, 3, 1), (1, 4, 1), (2, 3, 1)]))

    def test_many_nodes_in_a_row(self):
        self.least(False, (2, [(0, 0, k + 3) for k in range(3000)] + [(1, 0, 1)]))
        self.least(False, (2, [(k, 0, k + 3) for k in range(3000)] + [(3000, 0, 1)]))
        long = (2, [(k, 0, k + 3) for k in range(29)] + [(29, 0, 1)])
        self.least(True, long, THIRTY_ROADS)

    def test_one_number_of_a_least_one_put_otherwise(self):
        root, nodes = LEAST
        for k in range(5):
            for which in range(3):
                for number in range(-2, 9):
                    changed = [list(node) for node in nodes]
                    changed[k][which] = number
                    changed = [tuple(node) for node in changed]
                    self.least(plainly_least(FIVE_ROADS, (root, changed)), (root, changed))
        for number in range(-8, 9):
            self.least(number == 2, (number, nodes))

    def test_every_small_table(self):
        kinds = list(itertools.product((-1, 0, 1, 2), (-1, 0, 1, 2, 3, 4), (0, 1, 2, 3, 4)))
        web = (3, [(0, 1), (1, 2)])
        right = 0
        for nodes in itertools.product(kinds, repeat=2):
            table = (2, list(nodes))
            answer = plainly_least(web, table)
            right += answer
            self.assertIs(is_least(web, table), answer, table)
        self.assertEqual(right, 8)


def plainly_least(web, table):
    """Whether it is the table of its own sets."""
    root, nodes = table
    known = range(len(nodes) + 2)
    if root not in known or any(low not in known or high not in known for road, low, high in nodes):
        return False
    if any(not 0 <= road < len(web[1]) for road, low, high in nodes):
        return False
    if any(nodes[number - 2][0] <= road for road, low, high in nodes for number in (low, high) if number > 1):
        return False
    return plain_table(paths(nodes, root)) == table


class SetsOfTest(Case):
    def test_nought_and_one(self):
        self.tells([], sets_of, (0, []))
        self.tells([[]], sets_of, (1, []))

    def test_sorted_as_lists(self):
        sets = [[], [0, 2], [1], [1, 2, 3], [3], [0, 2, 3], [0], [2, 10], [2, 9], [2]]
        self.tells([[], [0], [0, 2], [0, 2, 3], [1], [1, 2, 3], [2], [2, 9], [2, 10], [3]], sets_of, plain_table(sets))

    def test_every_family_of_three_roads(self):
        sets = all_sets(3)
        for size in range(9):
            for some in itertools.combinations(sets, size):
                self.tells(sorted(some), sets_of, plain_table(some))

    def test_there_and_back(self):
        source = random.Random(42)
        for nothing in range(20):
            sets = random_family(source, 30, 25)
            self.tells(sets, sets_of, table_of(sets))

    def test_just_three_hundred_and_one_more(self):
        sets = [[a, b] for a, b in all_pairs(25)]
        self.tells(sorted(sets), sets_of, plain_table(sets))
        for more in ([], [0], [0, 1, 2], [29]):
            self.refuses(TooMany, sets_of, plain_table(sets + [more]))
            self.tells(sorted(sets[1:] + [more]), sets_of, plain_table(sets[1:] + [more]))

    def test_very_many(self):
        self.refuses(TooMany, sets_of, copy.deepcopy(ALL_SETS))


class HasSetTest(Case):
    def test_each_set_and_others(self):
        source = random.Random(43)
        for nothing in range(20):
            sets = random_family(source, 5, 8)
            for roads in all_sets(6):
                self.tells(roads in sets, has_set, plain_table(sets), roads)

    def test_nought_and_one(self):
        self.tells(False, has_set, (0, []), [])
        self.tells(False, has_set, (0, []), [0])
        self.tells(True, has_set, (1, []), [])
        self.tells(False, has_set, (1, []), [0])
        self.tells(False, has_set, (1, []), [-1])

    def test_what_is_no_set_of_roads(self):
        for sets in ([[0, 1, 3], [1], []], all_sets(4)):
            table = plain_table(sets)
            for size in range(5):
                for roads in map(list, itertools.product(range(-2, 5), repeat=size)):
                    self.assertIs(has_set(table, roads), roads in sets, roads)
            for roads in ([VERY_GREAT], [-VERY_GREAT], [0, 1, 3, VERY_GREAT], [0, 1, 3, 3], [0, 0, 1, 3], [3, 1, 0]):
                self.tells(False, has_set, copy.deepcopy(table), roads)

    def test_very_many(self):
        table = copy.deepcopy(ALL_SETS)
        self.assertIs(has_set(table, list(range(30))), True)
        self.assertIs(has_set(table, [0, 29]), True)
        self.assertIs(has_set(table, [0, 30]), False)

    def test_each_way(self):
        web = grid(3, 3)
        table = ways_table(web, 0, 8)
        sets = sets_of(table)
        self.assertEqual(len(sets), 12)
        for roads in sets:
            self.assertIs(has_set(table, roads), True)
            self.assertIs(has_set(table, roads[::-1]), False)
            self.assertIs(has_set(closed_table(web), roads), False)


class ToldTablesTest(Case):
    def test_a_told_table_may_be_handed_in(self):
        for seed in range(3):
            web = ringed_web(seed, 20)
            for table in (ways_table(web, 0, 8), closed_table(web)):
                self.assertIs(is_least(web, table), True)
                self.assertEqual(table_of(sets_of(table)), table)
