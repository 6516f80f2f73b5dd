import itertools

from onceways.errors import NoEnds, NoWay
from onceways.webs import grid
from onceways.ways import closed_of, every_closed, every_way, is_closed, is_way, roads_of, way_of
from tests.support import GREAT, VERY_GREAT, Case, plain_closed, plain_open, random_webs, wrong_ends

# A row 0 1 2 3 with a triangle 3 4 5 and a road across it; place 6 has no road.
WEB = (7, [(2, 3), (0, 1), (1, 2), (3, 5), (0, 2), (4, 5), (3, 4)])


def fresh_web():
    return (WEB[0], list(WEB[1]))


def turned(places):
    """All lists that go round the same closed way."""
    lists = []
    for way in (list(places), list(reversed(places))):
        lists += [way[k:] + way[:k] for k in range(len(way))]
    return lists


class IsWayTest(Case):
    def test_right_ones(self):
        self.tells(True, is_way, fresh_web(), 0, 4, [0, 1, 2, 3, 5, 4])
        self.tells(True, is_way, fresh_web(), 0, 4, [0, 2, 3, 4])
        self.tells(True, is_way, fresh_web(), 4, 0, [4, 3, 2, 0])
        self.tells(True, is_way, fresh_web(), 0, 1, [0, 1])
        self.tells(True, is_way, fresh_web(), 1, 0, [1, 0])

    def test_a_right_list_spoilt(self):
        right = [0, 1, 2, 3, 5, 4]
        wrong = [right[::-1], [], [0], [4], [0, 4]]
        # Without its place 1 or 5 it is a way by the road that spans these.
        wrong += [right[:k] + right[k + 1:] for k in (0, 2, 3, 5)]
        wrong += [right[:k] + [right[k]] + right[k:] for k in range(6)]
        wrong += [right + [0], [4] + right, [0, 1, 0, 1, 2, 3, 5, 4], [0, 1, 2, 0, 2, 3, 4], [0, 1, 2, 3, 5, 3, 4]]
        wrong += [right[:k] + [stranger] + right[k:] for k in range(7) for stranger in (-1, 7, 6, GREAT, -GREAT)]
        wrong += [right[:k] + [stranger] + right[k + 1:] for k in range(6) for stranger in (-1, 7, 6, GREAT, -GREAT)]
        for a, b in itertools.combinations(range(6), 2):
            changed = list(right)
            changed[a], changed[b] = changed[b], changed[a]
            wrong.append(changed)
        for places in wrong:
            self.tells(False, is_way, fresh_web(), 0, 4, places)

    def test_a_place_left_out_that_a_road_spans(self):
        self.tells(True, is_way, fresh_web(), 0, 4, [0, 2, 3, 5, 4])
        self.tells(True, is_way, fresh_web(), 0, 4, [0, 1, 2, 3, 4])

    def test_it_begins_and_ends_at_the_told_ends(self):
        way = [1, 2, 3]
        for one, other in itertools.permutations(range(7), 2):
            self.tells((one, other) == (1, 3), is_way, fresh_web(), one, other, list(way))

    def test_all_lists_of_small_webs(self):
        for web in random_webs(1, 12):
            some = [[one, other] for one, other in itertools.permutations(range(web[0]), 2)]
            for one, other in some[:4]:
                ways = [places for places, roads in plain_open(web, one, other)]
                for size in range(5):
                    for places in itertools.product(range(web[0]), repeat=size):
                        self.assertIs(is_way(web, one, other, list(places)), list(places) in ways)

    def test_wrong_ends_ahead_of_all_else(self):
        for one, other in wrong_ends(WEB):
            for places in ([], [0, 1], [one], [one, other], [0, 0], [one, 1, other], [VERY_GREAT]):
                self.refuses(NoEnds, is_way, fresh_web(), one, other, places)
        self.refuses(NoEnds, is_way, (1, []), 0, 0, [0])


class IsClosedTest(Case):
    def test_the_told_form_alone(self):
        for places in ([0, 1, 2], [3, 4, 5]):
            for form in turned(places):
                self.tells(form == places, is_closed, fresh_web(), form)

    def test_of_four_places_and_more(self):
        web = (5, [(0, 1), (1, 2), (2, 3), (3, 4), (0, 4), (0, 3)])
        for places in ([0, 1, 2, 3, 4], [0, 1, 2, 3]):
            for form in turned(places):
                self.assertIs(is_closed(web, form), form == places)
        self.assertIs(is_closed(web, [0, 1, 2, 4]), False)
        self.assertIs(is_closed(web, [0, 1, 3, 4]), False)
        self.assertIs(is_closed(web, [1, 2, 3]), False)

    def test_of_fewer_than_three_places(self):
        for places in ([], [0], [3], [0, 1], [1, 0], [2, 3], [6]):
            self.tells(False, is_closed, fresh_web(), places)

    def test_spoilt(self):
        for places in ([0, 1, 2, 0], [0, 0, 1, 2], [0, 1, 1, 2], [0, 1, 2, 2], [0, 1, 3], [0, 1, 6], [-1, 1, 2],
                       [0, 1, 7], [0, 1, GREAT], [-GREAT, 1, 2], [0, 1, 2, 3], [0, 1, 0], [0, 1, 0, 2],
                       [0, 1, 2, 3, 4, 5]):
            self.tells(False, is_closed, fresh_web(), places)

    def test_all_lists_of_small_webs(self):
        for web in random_webs(2, 12):
            ways = [places for places, roads in plain_closed(web)]
            for size in range(6):
                for places in itertools.product(range(web[0]), repeat=size):
                    self.assertIs(is_closed(web, list(places)), list(places) in ways)


class RoadsOfTest(Case):
    def test_of_an_open_way_rising(self):
        self.tells([0, 1, 2, 3, 5], roads_of, fresh_web(), [0, 1, 2, 3, 5, 4])
        self.tells([0, 4, 6], roads_of, fresh_web(), [4, 3, 2, 0])
        self.tells([1], roads_of, fresh_web(), [1, 0])
        self.tells([1, 2], roads_of, fresh_web(), [0, 1, 2])
        self.tells([1, 2], roads_of, fresh_web(), [0, 1, 2], False)

    def test_of_a_closed_way_in_any_of_its_lists(self):
        for form in turned([0, 1, 2]):
            self.tells([1, 2, 4], roads_of, fresh_web(), form, True)
        for form in turned([3, 4, 5]):
            self.tells([3, 5, 6], roads_of, fresh_web(), form, True)

    def test_small_webs(self):
        for web in random_webs(3, 10):
            for places, roads in plain_open(web, 0, 2):
                self.assertEqual(roads_of(web, places), roads)
            for places, roads in plain_closed(web):
                for form in turned(places):
                    self.assertEqual(roads_of(web, form, True), roads)


class WayOfTest(Case):
    def test_from_either_end(self):
        self.tells([0, 1, 2, 3, 5, 4], way_of, fresh_web(), 0, 4, [0, 1, 2, 3, 5])
        self.tells([4, 5, 3, 2, 1, 0], way_of, fresh_web(), 4, 0, [0, 1, 2, 3, 5])
        self.tells([1, 0], way_of, fresh_web(), 1, 0, [1])

    def test_other_ends_than_its_own(self):
        for one, other in itertools.permutations(range(7), 2):
            if (one, other) not in ((1, 3), (3, 1)):
                self.refuses(NoWay, way_of, fresh_web(), one, other, [0, 2])

    def test_what_is_no_set_of_a_way(self):
        wrong = {
            "empty": [],
            "not rising": [2, 1, 0, 3, 5],
            "last two exchanged": [0, 1, 2, 5, 3],
            "a road twice": [0, 1, 1, 2, 3, 5],
            "the first one twice": [0, 0, 1, 2, 3, 5],
            "the last one twice": [0, 1, 2, 3, 5, 5],
            "below 0": [-1, 0, 1, 2, 3, 5],
            "below 0, another name of a road": [-6, 0, 2, 3, 5],
            "no road": [0, 1, 2, 3, 5, 7],
            "a very great number": [0, 1, 2, 3, 5, VERY_GREAT],
            "very far below 0": [-VERY_GREAT, 0, 1, 2, 3, 5],
            "a road left out": [0, 2, 3, 5],
            "pieces": [1, 5],
            "three roads at a place": [0, 1, 2, 4, 6],
            "an end passed": [0, 1, 2, 3, 5, 6],
            "closed": [1, 2, 4],
            "all": [0, 1, 2, 3, 4, 5, 6],
        }
        for name, roads in wrong.items():
            with self.subTest(name):
                self.refuses(NoWay, way_of, fresh_web(), 0, 4, roads)
                self.refuses(NoWay, way_of, fresh_web(), 4, 0, roads)

    def test_a_closed_piece_beside_a_way(self):
        self.tells([0, 1], way_of, fresh_web(), 0, 1, [1])
        self.refuses(NoWay, way_of, fresh_web(), 0, 1, [1, 3, 5, 6])
        self.refuses(NoWay, way_of, fresh_web(), 0, 1, [1, 3])

    def test_every_set_of_small_webs(self):
        for web in random_webs(4, 8):
            numbers = range(min(len(web[1]), 9))
            for one, other in ((0, 1), (2, 0)):
                ways = {tuple(roads): places for places, roads in plain_open(web, one, other)}
                for roads in (list(some) for size in range(10) for some in itertools.combinations(numbers, size)):
                    if tuple(roads) in ways:
                        self.assertEqual(way_of(web, one, other, roads), ways[tuple(roads)])
                    else:
                        self.refuses(NoWay, way_of, web, one, other, roads)

    def test_wrong_ends_ahead_of_no_way(self):
        for one, other in wrong_ends(WEB):
            for roads in ([], [1], [0, 2], [2, 1], [-1], [VERY_GREAT]):
                self.refuses(NoEnds, way_of, fresh_web(), one, other, roads)


class ClosedOfTest(Case):
    def test_told_form(self):
        self.tells([0, 1, 2], closed_of, fresh_web(), [1, 2, 4])
        self.tells([3, 4, 5], closed_of, fresh_web(), [3, 5, 6])

    def test_told_form_whatever_order_the_roads_stand_in(self):
        ring = [(1, 3), (2, 3), (2, 5), (4, 5), (1, 4)]
        for roads in itertools.permutations(ring):
            self.assertEqual(closed_of((6, list(roads)), [0, 1, 2, 3, 4]), [1, 3, 2, 5, 4])

    def test_what_is_no_set_of_a_closed_way(self):
        wrong = {
            "empty": [],
            "not rising": [2, 1, 4],
            "turned about": [4, 2, 1],
            "a road twice": [1, 2, 2, 4],
            "the last one twice": [1, 2, 4, 4],
            "below 0": [-1, 1, 2, 4],
            "below 0, another name of a road": [-3, 1, 2],
            "no road": [1, 2, 4, 7],
            "a very great number": [1, 2, 4, VERY_GREAT],
            "very far below 0": [-VERY_GREAT, 1, 2, 4],
            "nothing but no road": [9],
            "a road left out": [1, 2],
            "one road": [1],
            "two closed pieces": [1, 2, 3, 4, 5, 6],
            "an open piece beside": [1, 2, 4, 5],
            "an open piece at it": [0, 1, 2, 4],
            "open": [0, 1, 2],
            "all": [0, 1, 2, 3, 4, 5, 6],
        }
        for name, roads in wrong.items():
            with self.subTest(name):
                self.refuses(NoWay, closed_of, fresh_web(), roads)
        self.refuses(NoWay, closed_of, (1, []), [])
        self.refuses(NoWay, closed_of, (1, []), [0])

    def test_two_closed_ways_with_a_place_in_common(self):
        web = (5, [(0, 1), (0, 2), (1, 2), (2, 3), (2, 4), (3, 4)])
        self.refuses(NoWay, closed_of, web, [0, 1, 2, 3, 4, 5])
        self.tells([2, 3, 4], closed_of, web, [3, 4, 5])

    def test_every_set_of_small_webs(self):
        for web in random_webs(6, 12):
            numbers = range(min(len(web[1]), 9))
            ways = {tuple(roads): places for places, roads in plain_closed(web)}
            for roads in (list(some) for size in range(10) for some in itertools.combinations(numbers, size)):
                if tuple(roads) in ways:
                    self.assertEqual(closed_of(web, roads), ways[tuple(roads)])
                else:
                    self.refuses(NoWay, closed_of, web, roads)


class ThereAndBackTest(Case):
    def test_each_way_is_told_by_its_set(self):
        web = grid(3, 4)
        for one, other in ((0, 11), (5, 2), (11, 0)):
            for roads in every_way(web, one, other):
                places = way_of(web, one, other, roads)
                self.assertIs(is_way(web, one, other, places), True)
                self.assertEqual(roads_of(web, places), roads)
                self.assertEqual(way_of(web, other, one, roads), places[::-1])
        for roads in every_closed(web):
            places = closed_of(web, roads)
            self.assertIs(is_closed(web, places), True)
            self.assertEqual(roads_of(web, places, True), roads)
