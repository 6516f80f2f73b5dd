import itertools
import random

from onceways.errors import NoEnds, NoOrder, TooMany
from onceways.orders import least_order, put_into
from onceways.tables import closed_table, ways_table
from onceways.webs import grid, reordered
from tests.support import (VERY_GREAT, Case, all_sets, gone_closed, gone_sets, plain_table, random_webs, ringed_web,
                           wrong_ends)


def orders_of(many, seed, roads):
    source = random.Random(seed)
    return [source.sample(range(roads), roads) for nothing in range(many)]


def nodes_by(web, one, other, order):
    other_web = (web[0], [web[1][number] for number in order])
    return len(plain_table(gone_sets(other_web, one, other))[1])


def fresh(web):
    return (web[0], list(web[1]))


class PutIntoTest(Case):
    def test_by_the_order_of_the_document(self):
        self.tells([1], put_into, [2, 0, 1], [0])
        self.tells([2], put_into, [2, 0, 1], [1])
        self.tells([0], put_into, [2, 0, 1], [2])
        self.tells([1, 2], put_into, [2, 0, 1], [0, 1])

    def test_none_all_and_some(self):
        for order in itertools.permutations(range(4)):
            self.tells([], put_into, list(order), [])
            self.tells([0, 1, 2, 3], put_into, list(order), [0, 1, 2, 3])
            for roads in all_sets(4):
                told = sorted(k for k in range(4) if order[k] in roads)
                self.tells(told, put_into, list(order), roads)
        self.tells([], put_into, [], [])

    def test_there_and_back(self):
        source = random.Random(61)
        for order in orders_of(20, 62, 30):
            back = [order.index(number) for number in range(30)]
            roads = sorted(source.sample(range(30), source.randint(0, 30)))
            self.assertEqual(put_into(back, put_into(order, roads)), roads)
            self.assertEqual(len(put_into(order, roads)), len(roads))

    def test_the_ways_of_the_web_in_the_other_order(self):
        for web in random_webs(63, 25):
            for order in orders_of(4, len(web[1]), len(web[1])):
                other = reordered(web, order)
                sets = [put_into(order, roads) for roads in gone_sets(web, 0, 2)]
                self.assertEqual(ways_table(other, 0, 2), plain_table(sets))
                self.assertEqual(sorted(sets), gone_sets(other, 0, 2))
                closed = [put_into(order, roads) for roads in gone_closed(web)]
                self.assertEqual(closed_table(other), plain_table(closed))


class LeastOrderTest(Case):
    def test_one(self):
        self.tells(0, least_order, grid(2, 3), 0, 5, [[6, 5, 4, 3, 2, 1, 0]])
        self.tells(0, least_order, (2, []), 0, 1, [[]])
        self.tells(0, least_order, (2, []), 0, 1, [[], []])

    def test_several(self):
        web = grid(3, 3)
        places = []
        for seed in range(15):
            orders = orders_of(6, seed, 12)
            nodes = [nodes_by(web, 0, 8, order) for order in orders]
            places.append(nodes.index(min(nodes)))
            self.tells(places[-1], least_order, fresh(web), 0, 8, [list(order) for order in orders])
        self.assertEqual(sorted(set(places)), [0, 1, 2, 3, 4, 5])

    def test_the_first_of_like_ones(self):
        web = grid(3, 3)
        orders = sorted(orders_of(6, 64, 12), key=lambda order: nodes_by(web, 0, 8, order))
        least, other, worst = orders[0], orders[1], orders[-1]
        self.assertLess(nodes_by(web, 0, 8, least), nodes_by(web, 0, 8, other))
        self.tells(0, least_order, fresh(web), 0, 8, [list(least), list(least), list(worst)])
        self.tells(1, least_order, fresh(web), 0, 8, [list(worst), list(least), list(least)])
        self.tells(2, least_order, fresh(web), 0, 8, [list(worst), list(other), list(least), list(least)])
        self.tells(0, least_order, fresh(web), 0, 8, [list(other), list(worst), list(other)])
        self.tells(0, least_order, (4, [(0, 1), (1, 2), (2, 3)]), 0, 3, [[1, 0, 2], [2, 1, 0]])

    def test_where_there_is_no_way(self):
        self.tells(0, least_order, (4, [(0, 1), (2, 3)]), 0, 3, [[1, 0], [0, 1]])

    def test_sixteen_places_and_thirty_roads(self):
        web = (16, [(k, k + 1) for k in range(15)] + [(k, k + 2) for k in range(14)] + [(0, 15)])
        orders = [sorted(range(30), key=lambda number: (max(web[1][number]) if turn else min(web[1][number]), number))
                  for turn in (True, False)]
        nodes = [nodes_by(web, 0, 8, order) for order in orders]
        self.assertLessEqual(max(nodes), 800)
        self.tells(nodes.index(min(nodes)), least_order, fresh(web), 0, 8, orders)

    def test_no_ends_ahead_of_all(self):
        web = ringed_web(66, 25)
        for one, other in wrong_ends(web):
            self.refuses(NoEnds, least_order, web, one, other, [list(range(25))])
            self.refuses(NoEnds, least_order, web, one, other, [[0], list(range(25))])
            self.refuses(NoEnds, least_order, web, one, other, orders_of(2, 65, 25))

    def test_no_order_wherever_it_stands(self):
        web = grid(2, 2)
        right = [0, 2, 1, 3]
        wrong = [[], [0, 1, 2], [0, 1, 2, 2], [0, 1, 2, 4], [1, 2, 3, 4], [-1, 0, 1, 2], [0, 1, 2, 3, 3],
                 [0, 1, 2, 3, 4], [0, 1, 2, VERY_GREAT], [0, 1, 2, -1]]
        for order in wrong:
            self.refuses(NoOrder, least_order, web, 0, 3, [order])
            for where in range(3):
                orders = [list(right), list(right)]
                orders.insert(where, order)
                self.refuses(NoOrder, least_order, web, 0, 3, orders)

    def test_too_many_wherever_it_stands_but_behind_no_order(self):
        web = ringed_web(66, 25)
        told = list(range(25))
        self.assertEqual(nodes_by(web, 0, 8, told), 800)
        great = [order for order in orders_of(6, 66, 25) if nodes_by(web, 0, 8, order) > 800][0]
        self.tells(0, least_order, fresh(web), 0, 8, [list(told), list(told)])
        for orders in ([great], [great, told], [told, great], [told, great, told]):
            self.refuses(TooMany, least_order, web, 0, 8, orders)
            for where in range(len(orders) + 1):
                self.refuses(NoOrder, least_order, web, 0, 8, orders[:where] + [told[1:]] + orders[where:])
