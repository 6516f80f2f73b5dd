import itertools

from onceways.errors import NoEnds, NoStep, NoWall
from onceways.walls import front, hopeful, wall_of, walls
from onceways.webs import grid
from tests.support import (VERY_GREAT, Case, all_sets, gone_sets, plain_open, random_webs, ringed_web,
                           wrong_ends)


def chosen_at(web, place, roads):
    return [number for number in roads if place in web[1][number]]


def pieces(web, roads):
    """What the chosen roads join: the places and the roads of each piece."""
    found = []
    for number in roads:
        a, b = web[1][number]
        touched = [piece for piece in found if a in piece[0] or b in piece[0]]
        found = [piece for piece in found if piece not in touched]
        places = {a, b}.union(*(piece[0] for piece in touched))
        found.append((places, [number] + [k for piece in touched for k in piece[1]]))
    return found


def loose_ends(web, piece):
    return [place for place in sorted(piece[0]) if len(chosen_at(web, place, piece[1])) == 1]


def plain_hopeful(web, one, other, i, roads):
    if sorted(set(roads)) != roads or not all(0 <= number < i for number in roads):
        return False
    found = pieces(web, roads)
    if any(len(piece[1]) >= len(piece[0]) for piece in found):
        return False
    for place in range(web[0]):
        many = len(chosen_at(web, place, roads))
        decided = all(number < i for number, road in enumerate(web[1]) if place in road)
        if many > (1 if place in (one, other) else 2):
            return False
        if decided and many not in ([1] if place in (one, other) else [0, 2]):
            return False
    if any(loose_ends(web, piece) == sorted((one, other)) for piece in found):
        return len(found) == 1
    return True


def plain_front(web, i):
    return [place for place in range(web[0])
            if any(place in road for road in web[1][:i]) and any(place in road for road in web[1][i:])]


def plain_wall(web, one, other, i, roads):
    found = pieces(web, roads)
    wall = []
    for place in plain_front(web, i):
        mine = [piece for piece in found if place in piece[0]]
        if not mine:
            wall.append(-2)
        elif place in (one, other) or place not in loose_ends(web, mine[0]):
            wall.append(-1)
        else:
            far = [end for end in loose_ends(web, mine[0]) if end != place][0]
            wall.append({one: -3, other: -4}.get(far, far))
    done = any(loose_ends(web, piece) == sorted((one, other)) for piece in found)
    return tuple(wall + [0] * done)


def plain_walls(web, one, other, i):
    numbers = {}
    for roads in all_sets(i):
        if plain_hopeful(web, one, other, i, roads):
            wall = plain_wall(web, one, other, i, roads)
            numbers[wall] = numbers.get(wall, 0) + 1
    return sorted(numbers.items())


# A row 0 1 2 3 4 with roads across it; then a road to a place beside, and one more.
WEB = (7, [(0, 1), (1, 2), (2, 3), (3, 4), (0, 2), (1, 3), (2, 4), (4, 5), (1, 5)])


def fresh_web():
    return (WEB[0], list(WEB[1]))


class FrontTest(Case):
    def test_behind_none_some_and_all(self):
        self.tells([], front, fresh_web(), 0)
        self.tells([0, 1], front, fresh_web(), 1)
        self.tells([0, 1, 2, 3], front, fresh_web(), 3)
        self.tells([1, 2, 3, 4], front, fresh_web(), 5)
        self.tells([1, 5], front, fresh_web(), 8)
        self.tells([], front, fresh_web(), 9)

    def test_no_roads(self):
        self.tells([], front, (1, []), 0)
        self.tells([], front, (5, []), 0)

    def test_empty_between(self):
        self.tells([], front, (4, [(0, 1), (2, 3)]), 1)

    def test_many_places(self):
        web = ringed_web(4)
        for i in range(31):
            self.tells(plain_front(web, i), front, (16, list(web[1])), i)

    def test_no_step(self):
        for i in (-1, -9, 10, 11, VERY_GREAT, -VERY_GREAT):
            self.refuses(NoStep, front, fresh_web(), i)
        self.refuses(NoStep, front, (1, []), 1)


class HopefulTest(Case):
    def hopes(self, answer, one, other, i, roads, web=WEB):
        self.tells(answer, hopeful, (web[0], list(web[1])), one, other, i, roads)

    def test_behind_none_some_and_all(self):
        self.hopes(True, 0, 4, 0, [])
        self.hopes(True, 0, 4, 1, [])
        self.hopes(True, 0, 4, 4, [0, 2])
        self.hopes(True, 0, 4, 9, [0, 1, 2, 3])
        self.hopes(True, 0, 4, 9, [0, 7, 8])
        self.hopes(False, 0, 4, 9, [])
        self.hopes(False, 0, 4, 9, [0])

    def test_three_roads_at_a_place(self):
        self.hopes(False, 0, 4, 5, [1, 2, 4])
        self.hopes(True, 0, 4, 5, [1, 4])
        self.hopes(True, 0, 4, 5, [2, 4])

    def test_two_roads_at_an_end(self):
        self.hopes(True, 1, 4, 1, [0])
        self.hopes(False, 1, 4, 2, [0, 1])
        self.hopes(True, 0, 4, 2, [0, 1])
        self.hopes(False, 4, 1, 2, [0, 1])

    def test_roads_that_go_round(self):
        web = (6, [(0, 1), (1, 2), (0, 2), (2, 3), (1, 4), (0, 5)])
        self.hopes(True, 4, 5, 3, [0, 1], web)
        self.hopes(False, 4, 5, 3, [0, 1, 2], web)

    def test_a_decided_place_with_one_chosen_road(self):
        web = (4, [(0, 1), (1, 2), (2, 3), (0, 3)])
        self.hopes(True, 2, 3, 1, [0], web)
        self.hopes(False, 2, 3, 2, [0], web)
        self.hopes(False, 2, 3, 2, [1], web)
        self.hopes(True, 2, 3, 2, [0, 1], web)
        self.hopes(True, 2, 3, 2, [], web)

    def test_a_decided_end(self):
        self.hopes(True, 0, 4, 4, [])
        self.hopes(False, 0, 4, 5, [])
        self.hopes(False, 4, 0, 5, [1])
        self.hopes(True, 0, 4, 5, [4])
        self.hopes(True, 4, 0, 5, [0])

    def test_an_end_without_any_road(self):
        for i in range(10):
            for roads in ([], [0], list(range(i))):
                self.hopes(False, 0, 6, i, list(roads))
                self.hopes(False, 6, 1, i, list(roads))
        self.hopes(False, 0, 1, 0, [], (2, []))
        self.hopes(True, 0, 1, 0, [], (2, [(0, 1)]))

    def test_another_place_without_any_road(self):
        self.hopes(True, 0, 1, 0, [], (4, [(0, 1)]))
        self.hopes(True, 0, 1, 1, [0], (4, [(0, 1)]))
        self.hopes(False, 0, 1, 1, [], (4, [(0, 1)]))

    def test_a_piece_between_the_ends_with_another_beside(self):
        self.hopes(True, 0, 2, 5, [4])
        self.hopes(True, 0, 2, 5, [0, 3])
        self.hopes(False, 0, 2, 5, [3, 4])
        self.hopes(False, 2, 0, 5, [3, 4])

    def test_any_list_of_whole_numbers(self):
        self.hopes(True, 0, 4, 4, [0, 1, 3])
        for roads in ([1, 0, 3], [3, 1, 0], [0, 1, 1, 3], [0, 0, 1, 3], [0, 1, 3, 3], [-1], [-1, 0, 1, 3], [0, 1, 3, 4],
                      [0, 1, 3, 9], [4], [0, 3, 1], [VERY_GREAT], [-VERY_GREAT], [0, 1, 3, VERY_GREAT], [-9, 1, 3]):
            self.hopes(False, 0, 4, 4, roads)

    def test_every_set_of_small_webs(self):
        for web in random_webs(21, 12, 5, 7):
            sets = all_sets(len(web[1]))
            for one, other in ((0, 1), (2, 0)):
                for i in range(len(web[1]) + 1):
                    for roads in sets:
                        told = hopeful(web, one, other, i, roads)
                        self.assertIs(told, plain_hopeful(web, one, other, i, roads), (web, one, other, i, roads))

    def test_every_list_of_a_small_web(self):
        web = (4, [(0, 1), (1, 2), (0, 2), (2, 3)])
        for i in range(5):
            for size in range(4):
                for roads in map(list, itertools.product(range(-2, 5), repeat=size)):
                    self.assertIs(hopeful(web, 3, 0, i, roads), plain_hopeful(web, 3, 0, i, roads))

    def test_refusals(self):
        for roads in ([], [0], [1, 0], [-1]):
            for one, other in wrong_ends(WEB):
                for i in (-1, 0, 9, 10, VERY_GREAT):
                    self.refuses(NoEnds, hopeful, fresh_web(), one, other, i, roads)
            for i in (-1, -9, 10, 11, VERY_GREAT, -VERY_GREAT):
                self.refuses(NoStep, hopeful, fresh_web(), 0, 4, i, roads)
                self.refuses(NoStep, hopeful, fresh_web(), 6, 4, i, roads)


class WallOfTest(Case):
    def test_behind_none(self):
        self.tells((), wall_of, fresh_web(), 0, 4, 0, [])

    def test_each_mark(self):
        self.tells((-2, -2, -2, -2), wall_of, fresh_web(), 0, 4, 3, [])
        self.tells((-2, 2, 1, -2), wall_of, fresh_web(), 0, 4, 3, [1])
        self.tells((-2, 3, -1, 1), wall_of, fresh_web(), 0, 4, 3, [1, 2])
        self.tells((-1, -1, -3, -2), wall_of, fresh_web(), 0, 4, 3, [0, 1])
        self.tells((-1, -1, -4, -2), wall_of, fresh_web(), 4, 0, 3, [0, 1])
        self.tells((-1, -3, 3, 2), wall_of, fresh_web(), 0, 4, 3, [0, 2])
        self.tells((-1, -1, -3, -4, -1), wall_of, fresh_web(), 0, 4, 4, [0, 1, 3])

    def test_place_nought_as_the_other_loose_end(self):
        self.tells((1, 0, -2), wall_of, fresh_web(), 3, 5, 2, [0])
        self.tells((2, -1, 0), wall_of, fresh_web(), 3, 5, 2, [0, 1])

    def test_an_end_that_is_left_behind(self):
        self.tells((-1, -1, -3, -2), wall_of, fresh_web(), 0, 4, 5, [0, 1, 2])
        self.tells((-1, -1, -4, -2), wall_of, fresh_web(), 4, 0, 5, [0, 1, 2])

    def test_done(self):
        self.tells((-1, -1, 0), wall_of, fresh_web(), 0, 1, 1, [0])
        self.tells((-1, -1, -1, -2, -2, 0), wall_of, fresh_web(), 0, 2, 4, [0, 1])
        self.tells((-2, -1, -1, -1, 0), wall_of, fresh_web(), 0, 4, 5, [2, 3, 4])

    def test_behind_all(self):
        self.tells((0,), wall_of, fresh_web(), 0, 4, 9, [0, 1, 2, 3])
        self.tells((0,), wall_of, (2, [(0, 1)]), 0, 1, 1, [0])

    def test_an_empty_front_between(self):
        web = (4, [(0, 1), (2, 3)])
        self.tells((0,), wall_of, web, 1, 0, 1, [0])
        self.tells((), wall_of, (4, [(0, 1), (2, 3)]), 2, 3, 1, [])

    def test_every_set_of_small_webs(self):
        for web in random_webs(22, 12, 5, 7):
            for one, other in ((0, 1), (2, 0)):
                for i in range(len(web[1]) + 1):
                    for roads in all_sets(len(web[1])):
                        if plain_hopeful(web, one, other, i, roads):
                            wall = plain_wall(web, one, other, i, roads)
                            self.assertEqual(wall_of(web, one, other, i, roads), wall, (web, one, other, i, roads))
                        else:
                            self.refuses(NoWall, wall_of, web, one, other, i, roads)

    def test_no_wall(self):
        wrong = [[1, 0, 3], [0, 0, 1], [0, 1, 1], [-1], [-9, 1], [0, 4], [9], [4], [VERY_GREAT], [-VERY_GREAT],
                 [3, 2, 1, 0], [0, 1, 2, 3, 4]]
        for roads in wrong:
            self.refuses(NoWall, wall_of, fresh_web(), 0, 4, 4, roads)
        self.refuses(NoWall, wall_of, fresh_web(), 1, 4, 4, [0, 1])
        self.refuses(NoWall, wall_of, fresh_web(), 0, 4, 9, [])
        self.refuses(NoWall, wall_of, fresh_web(), 0, 6, 0, [])
        self.refuses(NoWall, wall_of, (2, []), 0, 1, 0, [])

    def test_no_ends_ahead_of_no_step_ahead_of_no_wall(self):
        for roads in ([], [0], [1, 0], [-1], [0, 1, 2, 3]):
            for one, other in wrong_ends(WEB):
                for i in (-1, 0, 9, 10):
                    self.refuses(NoEnds, wall_of, fresh_web(), one, other, i, roads)
            for i in (-1, 10, VERY_GREAT, -VERY_GREAT):
                self.refuses(NoStep, wall_of, fresh_web(), 0, 4, i, roads)
                self.refuses(NoStep, wall_of, fresh_web(), 6, 4, i, roads)


class WallsTest(Case):
    def test_behind_none_some_and_all(self):
        self.tells([((), 1)], walls, fresh_web(), 0, 4, 0)
        self.tells([((-2, -2), 1), ((-1, -3), 1)], walls, fresh_web(), 0, 4, 1)
        self.tells([((-2, -2), 1), ((-1, -1, 0), 1)], walls, fresh_web(), 0, 1, 1)
        ways = len(plain_open(WEB, 0, 4))
        self.assertEqual(ways, 10)
        self.tells([((0,), ways)], walls, fresh_web(), 0, 4, 9)

    def test_none(self):
        for i in range(10):
            self.tells([], walls, fresh_web(), 0, 6, i)
            self.tells([], walls, fresh_web(), 6, 0, i)
        self.tells([], walls, (2, []), 0, 1, 0)
        self.tells([], walls, (4, [(0, 1), (2, 3)]), 0, 3, 2)

    def test_one_wall_of_several_sets(self):
        web = (5, [(0, 1), (0, 2), (1, 3), (2, 3), (3, 4)])
        self.tells([((-3,), 2)], walls, web, 0, 4, 4)

    def test_also_such_as_no_way_can_come_of(self):
        web = (5, [(1, 2), (0, 3), (1, 4), (2, 4)])
        self.assertEqual(gone_sets(web, 0, 3), [[1]])
        self.tells([((-2, -2), 1), ((2, 1), 1)], walls, web, 0, 3, 1)

    def test_an_empty_front_between(self):
        web = (6, [(0, 1), (0, 2), (1, 2), (3, 4), (3, 5), (4, 5)])
        self.tells([((0,), 2)], walls, (6, list(web[1])), 1, 0, 3)
        self.tells([((), 1)], walls, (6, list(web[1])), 3, 5, 3)
        self.tells([], walls, (6, list(web[1])), 0, 5, 3)

    def test_small_webs(self):
        for web in random_webs(23, 25, 6, 9):
            for one, other in ((0, 1), (2, 0)):
                for i in range(len(web[1]) + 1):
                    told = plain_walls(web, one, other, i)
                    self.tells(told, walls, (web[0], list(web[1])), one, other, i)

    def test_grids(self):
        for rows, columns in ((2, 3), (3, 2), (2, 4)):
            web = grid(rows, columns)
            for i in range(len(web[1]) + 1):
                self.assertEqual(walls(web, 0, web[0] - 1, i), plain_walls(web, 0, web[0] - 1, i))

    def test_sixteen_places_and_thirty_roads(self):
        for seed in (5, 6):
            web = ringed_web(seed)
            self.assertEqual(walls(web, 0, 8, 11), plain_walls(web, 0, 8, 11))
            self.assertEqual(walls(web, 0, 8, 30), [((0,), len(gone_sets(web, 0, 8)))])

    def test_no_ends_ahead_of_no_step(self):
        for one, other in wrong_ends(WEB):
            for i in (-1, 0, 9, 10, VERY_GREAT):
                self.refuses(NoEnds, walls, fresh_web(), one, other, i)
        for i in (-1, -9, 10, 11, VERY_GREAT, -VERY_GREAT):
            self.refuses(NoStep, walls, fresh_web(), 0, 4, i)
            self.refuses(NoStep, walls, fresh_web(), 6, 4, i)


class GoingOnTest(Case):
    def test_two_sets_with_one_wall_go_on_alike(self):
        shared = 0
        for web in random_webs(24, 50, 6, 9):
            many = len(web[1])
            ways = [tuple(roads) for roads in gone_sets(web, 0, 2)]
            for i in range(many + 1):
                going = {}
                for roads in all_sets(i):
                    if hopeful(web, 0, 2, i, roads):
                        later = {way[len(roads):] for way in ways if way[:len(roads)] == tuple(roads)}
                        later = {rest for rest in later if not rest or rest[0] >= i}
                        going.setdefault(wall_of(web, 0, 2, i, roads), []).append(later)
                for alike in going.values():
                    shared += len(alike) > 1
                    self.assertTrue(all(later == alike[0] for later in alike))
        self.assertGreater(shared, 100)

    def test_every_beginning_of_a_way_is_hopeful(self):
        web = grid(3, 4)
        for roads in gone_sets(web, 4, 7):
            for i in range(len(web[1]) + 1):
                self.assertIs(hopeful(web, 4, 7, i, [number for number in roads if number < i]), True)
