import copy
import itertools
import random

from onceways.errors import TooMany
from onceways.joined import both_of, either_of, first_without, of_lengths, through_roads, touching_all
from onceways.tables import closed_table, has_set, is_least, sets_of, ways_table
from onceways.webs import grid, roads_at
from tests.support import (ALL_SETS, VERY_GREAT, Case, all_pairs, all_sets, family_with, gone_sets, plain_table,
                           random_family, ringed_web)

NONE = (0, [])
EMPTY_ALONE = (1, [])
THIRTY_ROADS = (16, all_pairs(16)[:30])


def but_some(roads, out, seed):
    """All sets of so many roads but so many of them."""
    sets = list(map(tuple, all_sets(roads)))
    return sorted(random.Random(seed).sample(sets, len(sets) - out))


def has_all(roads, wished, off):
    return all(road in roads for road in wished) and not any(road in roads for road in off)


def touches(roads, lists):
    return all(any(road in roads for road in some) for some in lists)


class JoinedCase(Case):
    def joins(self, sets, asked, *handed):
        """The least table of the sets is told, or refused where it is too great; tells which."""
        table = plain_table(sets)
        if len(table[1]) > 800:
            self.refuses(TooMany, asked, *handed)
            return False
        self.tells(table, asked, *copy.deepcopy(handed))
        self.assertIs(is_least(THIRTY_ROADS, table), True)
        return True


class TwoTablesTest(JoinedCase):
    def joins_three(self, ones, others):
        one, other = plain_table(ones), plain_table(others)
        self.joins([roads for roads in ones if roads in others], both_of, one, other)
        self.joins(ones + others, either_of, one, other)
        self.joins([roads for roads in ones if roads not in others], first_without, one, other)

    def test_by_hand(self):
        one, other = [[], [0, 2], [1]], [[1], [0], [0, 2]]
        self.tells(plain_table([[1], [0, 2]]), both_of, plain_table(one), plain_table(other))
        self.tells(plain_table([[], [0], [1], [0, 2]]), either_of, plain_table(one), plain_table(other))
        self.tells((1, []), first_without, plain_table(one), plain_table(other))
        self.tells((2, [(0, 0, 1)]), first_without, plain_table(other), plain_table(one))

    def test_none_and_the_set_without_roads_alone(self):
        families = [[], [[]], [[0]], [[29]], [[], [3]], [[0, 1], [2]], all_sets(3)]
        for ones in families:
            for others in families:
                self.joins_three(ones, others)
        for table in (NONE, EMPTY_ALONE, plain_table([[], [2, 5]])):
            self.tells((0, []), both_of, copy.deepcopy(table), (0, []))
            self.tells((0, []), both_of, (0, []), copy.deepcopy(table))
            self.tells(copy.deepcopy(table), either_of, (0, []), copy.deepcopy(table))
            self.tells(copy.deepcopy(table), either_of, copy.deepcopy(table), (0, []))
            self.tells(copy.deepcopy(table), first_without, copy.deepcopy(table), (0, []))
            self.tells((0, []), first_without, (0, []), copy.deepcopy(table))
        self.tells(plain_table([[2, 5]]), first_without, plain_table([[], [2, 5]]), (1, []))

    def test_one_with_itself(self):
        for table in (plain_table([[], [1], [0, 3]]), copy.deepcopy(ALL_SETS), ways_table(grid(3, 3), 0, 8)):
            before = copy.deepcopy(table)
            self.assertEqual(both_of(table, table), before)
            self.assertEqual(either_of(table, table), before)
            self.assertEqual(first_without(table, table), (0, []))
            self.assertEqual(table, before)
            either_of(table, table)[1].clear()
            self.assertEqual(table, before)

    def test_all_families_of_two_roads(self):
        sets = all_sets(2)
        families = [list(some) for size in range(5) for some in itertools.combinations(sets, size)]
        for ones in families:
            for others in families:
                self.joins_three(ones, others)

    def test_many_families(self):
        source = random.Random(81)
        for roads in (3, 5, 8, 30):
            for nothing in range(25):
                ones = random_family(source, roads, 12)
                others = random_family(source, roads, 12) + source.sample(ones, len(ones) // 2)
                self.joins_three(ones, others)

    def test_all_sets_of_thirty_roads(self):
        table = plain_table([[], [0, 29], [3, 4, 5]])
        self.tells(copy.deepcopy(table), both_of, copy.deepcopy(ALL_SETS), copy.deepcopy(table))
        self.tells(copy.deepcopy(ALL_SETS), either_of, copy.deepcopy(table), copy.deepcopy(ALL_SETS))
        self.tells((0, []), first_without, copy.deepcopy(table), copy.deepcopy(ALL_SETS))
        rest = first_without(ALL_SETS, table)
        self.assertIs(is_least(THIRTY_ROADS, rest), True)
        self.tells(copy.deepcopy(ALL_SETS), either_of, copy.deepcopy(rest), copy.deepcopy(table))
        self.tells((0, []), both_of, copy.deepcopy(rest), copy.deepcopy(table))
        self.tells(copy.deepcopy(table), first_without, copy.deepcopy(ALL_SETS), copy.deepcopy(rest))

    def test_ways(self):
        web = ringed_web(5, 21)
        ones, others = gone_sets(web, 0, 8), gone_sets(web, 8, 3)
        self.joins_three(ones, others)
        self.tells((0, []), both_of, ways_table(web, 0, 8), closed_table(web))

    def test_just_eight_hundred_nodes_and_one_more(self):
        for nodes in (799, 800, 801):
            sets = family_with(nodes)
            half = len(sets) // 2
            told = self.joins(sets, either_of, plain_table(sets[:half]), plain_table(sets[half:]))
            self.assertIs(told, nodes <= 800)

    def test_too_many_in_both_and_in_the_first_without(self):
        for out, answer in ((400, True), (600, False)):
            one, other = but_some(13, out, 1), but_some(13, out, 2)
            common = sorted(set(one) & set(other))
            self.assertIs(self.joins(common, both_of, plain_table(one), plain_table(other)), answer)
            missing = sorted(set(map(tuple, all_sets(13))) - set(other))
            left = sorted(set(one) - set(missing))
            self.assertIs(self.joins(left, first_without, plain_table(one), plain_table(missing)), answer)


class ThroughRoadsTest(JoinedCase):
    def goes_through(self, sets, wished, off):
        kept = [roads for roads in sets if has_all(roads, wished, off)]
        self.joins(kept, through_roads, plain_table(sets), wished, off)

    def test_empty_lists(self):
        for sets in ([], [[]], [[0, 3], [1], []], all_sets(4)):
            self.goes_through(sets, [], [])
        table = plain_table([[0, 3], [1]])
        through_roads(table, [], [])[1].clear()
        self.assertEqual(table, plain_table([[0, 3], [1]]))

    def test_in_any_order_and_some_twice(self):
        sets = all_sets(5)
        for wished in itertools.permutations([0, 3, 4]):
            for off in itertools.permutations([1, 2]):
                self.goes_through(sets, list(wished), list(off))
                self.goes_through(sets, [*wished, 3, 3, 0], [*off, 1])
        self.goes_through(sets, [2, 2], [])
        self.goes_through(sets, [2, 2, 2], [4, 4, 4])

    def test_roads_that_no_set_has(self):
        sets = [[], [0, 2], [2, 7], [0, 2, 7]]
        for road in (1, 3, 8, 29):
            self.goes_through(sets, [road], [])
            self.goes_through(sets, [0, road], [])
            self.goes_through(sets, [road, 2], [7])
            self.goes_through(sets, [], [road])
            self.goes_through(sets, [2], [road, 0])

    def test_one_road_in_both_lists(self):
        for sets in ([[0], [1], []], all_sets(4)):
            for road in range(5):
                self.tells((0, []), through_roads, plain_table(sets), [road], [road])
                self.tells((0, []), through_roads, plain_table(sets), [0, road], [3, road])

    def test_none_and_the_set_without_roads_alone(self):
        for table in (NONE, EMPTY_ALONE):
            self.tells((0, []), through_roads, copy.deepcopy(table), [0], [])
            self.tells(copy.deepcopy(table), through_roads, copy.deepcopy(table), [], [0, 1])

    def test_many_families(self):
        source = random.Random(85)
        for roads in (4, 6, 30):
            for nothing in range(40):
                sets = random_family(source, roads, 20)
                wished = [source.randrange(roads) for k in range(source.randint(0, 3))]
                off = [source.randrange(roads) for k in range(source.randint(0, 3))]
                self.goes_through(sets, wished, off)

    def test_all_sets_of_thirty_roads(self):
        told = [(k, 0, k + 3) if k == 4 else (k, k + 3, k + 3) for k in range(29)]
        self.tells((2, told + [(29, 1, 1)]), through_roads, copy.deepcopy(ALL_SETS), [4], [])
        self.tells((2, [(k, 0, k + 3) for k in range(29)] + [(29, 0, 1)]), through_roads, copy.deepcopy(ALL_SETS),
                   list(range(30)), [])
        self.tells((1, []), through_roads, copy.deepcopy(ALL_SETS), [], list(range(29, -1, -1)))

    def test_ways(self):
        web = grid(4, 4)
        table = ways_table(web, 0, 15)
        for wished, off in (([5], [0]), ([1, 9, 20], [4]), ([0, 1], [])):
            kept = [roads for roads in gone_sets(web, 0, 15) if has_all(roads, wished, off)]
            self.assertEqual(sets_of(through_roads(table, wished, off)), kept)


class TouchingAllTest(JoinedCase):
    def touches_all(self, sets, lists):
        kept = [roads for roads in sets if touches(roads, lists)]
        return self.joins(kept, touching_all, plain_table(sets), lists)

    def test_no_list(self):
        for sets in ([], [[]], [[0, 3], [1], []], all_sets(4)):
            self.touches_all(sets, [])
        table = plain_table([[0, 3], [1]])
        touching_all(table, [])[1].clear()
        self.assertEqual(table, plain_table([[0, 3], [1]]))

    def test_a_list_without_roads_among_others(self):
        for sets in ([], [[]], [[0, 3], [1], []], all_sets(4)):
            for lists in ([[]], [[], [0]], [[0, 1], []], [[0], [], [1, 2, 3]]):
                self.tells((0, []), touching_all, plain_table(sets), copy.deepcopy(lists))

    def test_several_lists(self):
        sets = all_sets(5)
        for lists in ([[0]], [[0], [4]], [[0, 1], [1, 2], [3]], [[4, 2, 0], [1, 3]], [[0, 1], [0, 1]], [[2, 2, 2]],
                      [[0, 1, 2, 3, 4]], [[3, 9]], [[9]], [[9, 12], [0]], [[VERY_GREAT, 0]], [[0], [1], [2], [3], [4]]):
            self.touches_all(sets, lists)

    def test_none_and_the_set_without_roads_alone(self):
        for table in (NONE, EMPTY_ALONE):
            self.tells((0, []), touching_all, copy.deepcopy(table), [[0]])
            self.tells(copy.deepcopy(table), touching_all, copy.deepcopy(table), [])

    def test_many_families(self):
        source = random.Random(86)
        for roads in (4, 6, 30):
            for nothing in range(40):
                sets = random_family(source, roads, 20)
                lists = [[source.randrange(roads) for k in range(source.randint(1, 4))]
                         for some in range(source.randint(0, 4))]
                self.touches_all(sets, lists)

    def test_just_eight_hundred_nodes(self):
        sets = family_with(800)
        self.assertTrue(self.touches_all(sets, []))
        self.assertTrue(self.touches_all(sets, [list(range(30))]))

    def test_ways_that_come_to_each_place(self):
        web = grid(4, 4)
        lists = [roads_at(web, place) for place in range(16)]
        kept = [roads for roads in gone_sets(web, 0, 12) if len(roads) == 15]
        self.assertEqual(sets_of(touching_all(ways_table(web, 0, 12), lists)), kept)

    def test_too_many(self):
        # Behind the first half of the roads each set of them goes on otherwise.
        source = random.Random(89)
        lists = [[k, k + 8] for k in range(8)]
        table = touching_all(ALL_SETS, lists)
        self.assertIs(is_least(THIRTY_ROADS, table), True)
        for nothing in range(300):
            roads = sorted(source.sample(range(30), source.randint(20, 30)))
            self.assertIs(has_set(table, roads), touches(roads, lists))
        self.refuses(TooMany, touching_all, ALL_SETS, [[k, k + 9] for k in range(9)])
        self.refuses(TooMany, touching_all, ALL_SETS, [[k, k + 15] for k in range(15)])


class OfLengthsTest(JoinedCase):
    def has_lengths(self, sets, low, high):
        kept = [roads for roads in sets if low <= len(roads) <= high]
        return self.joins(kept, of_lengths, plain_table(sets), low, high)

    def test_all_bounds(self):
        source = random.Random(87)
        for sets in ([], [[]], [[0, 3], [1], []], all_sets(4), random_family(source, 6, 20)):
            for low in range(-2, 9):
                for high in range(-2, 9):
                    self.has_lengths(sets, low, high)

    def test_very_great_bounds(self):
        sets = [[], [0], [1, 2], [0, 1, 2]]
        for low, high in ((-VERY_GREAT, VERY_GREAT), (VERY_GREAT, -VERY_GREAT), (2, VERY_GREAT), (-VERY_GREAT, 1),
                          (VERY_GREAT, VERY_GREAT), (-VERY_GREAT, -VERY_GREAT), (VERY_GREAT, 2), (1, -VERY_GREAT)):
            self.has_lengths(sets, low, high)

    def test_just_eight_hundred_nodes(self):
        self.assertTrue(self.has_lengths(family_with(800), 0, 30))

    def test_the_same_table_is_a_new_one(self):
        table = plain_table([[0, 3], [1]])
        of_lengths(table, 0, 30)[1].clear()
        self.assertEqual(table, plain_table([[0, 3], [1]]))

    def test_all_sets_of_thirty_roads(self):
        self.tells((1, []), of_lengths, copy.deepcopy(ALL_SETS), 0, 0)
        self.tells((2, [(k, k + 3, 1) for k in range(29)] + [(29, 0, 1)]), of_lengths, copy.deepcopy(ALL_SETS), 1, 1)
        self.tells((2, [(k, 0, k + 3) for k in range(29)] + [(29, 0, 1)]), of_lengths, copy.deepcopy(ALL_SETS), 30, 30)
        self.tells(copy.deepcopy(ALL_SETS), of_lengths, copy.deepcopy(ALL_SETS), 0, 30)
        self.tells((0, []), of_lengths, copy.deepcopy(ALL_SETS), 31, 40)
        self.assertEqual(len(of_lengths(ALL_SETS, 15, 15)[1]), 15 * 16)

    def test_ways(self):
        web = grid(4, 4)
        for low, high in ((6, 6), (8, 10), (7, 7), (15, 20)):
            kept = [roads for roads in gone_sets(web, 0, 15) if low <= len(roads) <= high]
            self.assertEqual(sets_of(of_lengths(ways_table(web, 0, 15), low, high)), kept)

    def test_too_many(self):
        sets = but_some(14, 500, 3)
        self.assertLessEqual(len(plain_table(sets)[1]), 800)
        self.assertIs(self.has_lengths(sets, 3, 9), False)
        self.assertIs(self.has_lengths(sets, 0, 7), True)
