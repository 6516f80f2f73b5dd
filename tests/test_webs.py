import random

from onceways.errors import NoOrder, NoPlace, NoWeb
from onceways.webs import beside, grid, reordered, roads_at, web_of
from tests.support import GREAT, VERY_GREAT, Case, all_pairs


class WebOfTest(Case):
    def test_one_place_and_no_road(self):
        self.tells((1, []), web_of, 1, [])

    def test_places_without_roads(self):
        self.tells((5, []), web_of, 5, [])

    def test_roads_keep_their_order(self):
        self.tells((4, [(2, 3), (0, 3), (0, 1)]), web_of, 4, [(2, 3), (0, 3), (0, 1)])

    def test_sixteen_places_and_thirty_roads_in_any_order(self):
        source = random.Random(5)
        for seed in range(20):
            roads = source.sample(all_pairs(16), 30)
            self.tells((16, list(roads)), web_of, 16, roads)

    def test_many_places(self):
        self.tells((GREAT, [(0, GREAT - 1)]), web_of, GREAT, [(0, GREAT - 1)])

    def test_the_list_of_roads_is_the_webs_own(self):
        roads = [(0, 1), (1, 2)]
        web = web_of(3, roads)
        roads.append((0, 2))
        self.assertEqual(web, (3, [(0, 1), (1, 2)]))
        web[1].clear()
        self.assertEqual(roads, [(0, 1), (1, 2), (0, 2)])

    def test_number_of_places_below_one(self):
        for places in (0, -1, -16, -VERY_GREAT):
            self.refuses(NoWeb, web_of, places, [])
            self.refuses(NoWeb, web_of, places, [(0, 1)])

    def test_a_wrong_road_wherever_it_stands(self):
        right = [(0, 1), (1, 2), (0, 4), (3, 4)]
        wrong = [(-1, 2), (-2, -1), (0, 5), (4, 5), (5, 6), (2, 2), (0, 0), (4, 4), (2, 1), (3, 0), (0, -1),
                 (-VERY_GREAT, 1), (0, VERY_GREAT), (VERY_GREAT, VERY_GREAT), (VERY_GREAT, 0), (1, -VERY_GREAT)]
        self.tells((5, list(right)), web_of, 5, list(right))
        for road in wrong:
            for where in range(len(right) + 1):
                self.refuses(NoWeb, web_of, 5, right[:where] + [road] + right[where:])

    def test_a_road_twice_wherever_it_stands(self):
        right = [(0, 1), (1, 2), (0, 4), (3, 4)]
        for road in right:
            for where in range(len(right) + 1):
                self.refuses(NoWeb, web_of, 5, right[:where] + [road] + right[where:])

    def test_no_road_in_a_web_of_one_place(self):
        self.refuses(NoWeb, web_of, 1, [(0, 1)])
        self.refuses(NoWeb, web_of, 1, [(0, 0)])


class PlacesTest(Case):
    def setUp(self):
        self.web = (6, [(2, 4), (0, 2), (4, 5), (0, 4), (1, 2)])

    def test_roads_at_each_place(self):
        told = [[1, 3], [4], [0, 1, 4], [], [0, 2, 3], [2]]
        for place, roads in enumerate(told):
            self.tells(roads, roads_at, (6, list(self.web[1])), place)

    def test_places_beside_each_place(self):
        told = [[2, 4], [2], [0, 1, 4], [], [0, 2, 5], [4]]
        for place, places in enumerate(told):
            self.tells(places, beside, (6, list(self.web[1])), place)

    def test_a_web_of_one_place(self):
        self.tells([], roads_at, (1, []), 0)
        self.tells([], beside, (1, []), 0)

    def test_full_web(self):
        for place in range(7):
            self.tells([other for other in range(7) if other != place], beside, (7, all_pairs(7)), place)

    def test_what_is_no_place(self):
        for asked in (roads_at, beside):
            for place in (-1, -6, 6, 7, VERY_GREAT, -VERY_GREAT):
                self.refuses(NoPlace, asked, self.web, place)
            self.refuses(NoPlace, asked, (1, []), 1)


class GridTest(Case):
    def test_one_place(self):
        self.tells((1, []), grid, 1, 1)

    def test_one_row(self):
        self.tells((4, [(0, 1), (1, 2), (2, 3)]), grid, 1, 4)

    def test_one_column(self):
        self.tells((4, [(0, 1), (1, 2), (2, 3)]), grid, 4, 1)

    def test_square(self):
        self.tells((4, [(0, 1), (0, 2), (1, 3), (2, 3)]), grid, 2, 2)

    def test_fewer_rows_than_columns(self):
        self.tells((6, [(0, 1), (0, 3), (1, 2), (1, 4), (2, 5), (3, 4), (4, 5)]), grid, 2, 3)

    def test_more_rows_than_columns(self):
        self.tells((6, [(0, 1), (0, 2), (1, 3), (2, 3), (2, 4), (3, 5), (4, 5)]), grid, 3, 2)

    def test_place_by_place(self):
        for rows in range(1, 7):
            for columns in range(1, 7):
                roads = []
                for row in range(rows):
                    for column in range(columns):
                        place = row * columns + column
                        roads += [(place, place + 1)] * (column < columns - 1)
                        roads += [(place, place + columns)] * (row < rows - 1)
                self.tells((rows * columns, roads), grid, rows, columns)

    def test_rows_or_columns_below_one(self):
        for wrong in (0, -1, -4, -VERY_GREAT):
            self.refuses(NoWeb, grid, wrong, 3)
            self.refuses(NoWeb, grid, 3, wrong)
            self.refuses(NoWeb, grid, wrong, wrong)
            self.refuses(NoWeb, grid, wrong, 1)
        self.refuses(NoWeb, grid, -2, -2)
        self.refuses(NoWeb, grid, 0, VERY_GREAT)


class ReorderedTest(Case):
    def test_road_k_is_the_old_one_at_k(self):
        self.tells((4, [(1, 2), (0, 1), (2, 3)]), reordered, (4, [(0, 1), (2, 3), (1, 2)]), [2, 0, 1])

    def test_the_same_order(self):
        web = (4, [(0, 1), (2, 3), (1, 2)])
        self.assertIsNot(reordered(web, [0, 1, 2])[1], web[1])
        self.tells((4, [(0, 1), (2, 3), (1, 2)]), reordered, web, [0, 1, 2])

    def test_no_roads(self):
        self.tells((3, []), reordered, (3, []), [])

    def test_thirty_roads(self):
        source = random.Random(8)
        roads = source.sample(all_pairs(16), 30)
        order = source.sample(range(30), 30)
        self.tells((16, [roads[k] for k in order]), reordered, (16, roads), order)

    def test_what_is_no_order(self):
        web = (4, [(0, 1), (2, 3), (1, 2)])
        wrong = [[], [0, 1], [2, 1], [0, 1, 1], [0, 0, 2], [2, 2, 2], [0, 1, 2, 2], [0, 1, 2, 3], [-1, 0, 1],
                 [0, 1, -1], [1, 2, 3], [0, 1, 3], [0, 1, 2, -1], [0, 1, VERY_GREAT], [0, 1, -VERY_GREAT]]
        for order in wrong:
            self.refuses(NoOrder, reordered, web, order)
        self.refuses(NoOrder, reordered, (3, []), [0])
        self.refuses(NoOrder, reordered, (3, []), [-1])
