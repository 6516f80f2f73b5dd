import itertools

from onceways.counts import count
from onceways.cuts import cut, is_cut
from onceways.errors import NoEnds
from onceways.webs import grid
from tests.support import VERY_GREAT, Case, all_sets, random_webs, ringed_web, wrong_ends

# Three places joined, two joined, and one alone.
WEB = (6, [(0, 3), (1, 4), (3, 5)])


def fresh_web():
    return (WEB[0], list(WEB[1]))


def plainly_right(web, one, other, places):
    if any(a >= b for a, b in zip(places, places[1:])) or any(place not in range(web[0]) for place in places):
        return False
    crossed = any(len({a, b} & set(places)) == 1 for a, b in web[1])
    return one in places and other not in places and not crossed


class CutTest(Case):
    def test_where_there_is_a_way(self):
        self.tells(None, cut, fresh_web(), 0, 5)
        self.tells(None, cut, fresh_web(), 5, 0)
        self.tells(None, cut, fresh_web(), 1, 4)
        self.tells(None, cut, grid(3, 3), 0, 8)
        self.tells(None, cut, ringed_web(1), 3, 12)

    def test_where_there_is_none(self):
        self.tells([0, 3, 5], cut, fresh_web(), 0, 1)
        self.tells([0, 3, 5], cut, fresh_web(), 5, 4)
        self.tells([1, 4], cut, fresh_web(), 4, 0)

    def test_where_an_end_has_no_road(self):
        self.tells([2], cut, fresh_web(), 2, 0)
        self.tells([0, 3, 5], cut, fresh_web(), 3, 2)
        self.tells([0], cut, (2, []), 0, 1)
        self.tells([1], cut, (2, []), 1, 0)

    def test_the_right_one_with_fewest_places(self):
        for web in random_webs(71, 60, 6, 5):
            for one, other in itertools.permutations(range(web[0]), 2):
                right = [places for places in all_sets(web[0]) if plainly_right(web, one, other, places)]
                told = min(right, key=len) if right else None
                self.tells(told, cut, (web[0], list(web[1])), one, other)
                self.assertIs(told is None, count(web, one, other) > 0)
                for places in right:
                    self.assertEqual(count(web, one, other), 0)
                    self.assertIs(is_cut(web, one, other, places), True)

    def test_sixteen_places(self):
        web = (16, [(k, k + 2) for k in range(14)])
        self.tells(list(range(0, 16, 2)), cut, (16, list(web[1])), 6, 9)
        self.tells(list(range(1, 16, 2)), cut, (16, list(web[1])), 15, 0)

    def test_no_ends(self):
        for web in (WEB, (4, []), (1, [])):
            for one, other in wrong_ends(web):
                self.refuses(NoEnds, cut, web, one, other)


class IsCutTest(Case):
    def cuts(self, answer, one, other, places):
        self.tells(answer, is_cut, fresh_web(), one, other, places)

    def test_the_told_cut_and_other_right_ones(self):
        self.cuts(True, 0, 1, [0, 3, 5])
        self.cuts(True, 0, 1, [0, 2, 3, 5])
        self.cuts(True, 0, 2, [0, 3, 5])
        self.cuts(True, 0, 2, [0, 1, 3, 4, 5])
        self.cuts(True, 2, 0, [2])
        self.cuts(True, 2, 0, [1, 2, 4])

    def test_wrong_ones(self):
        wrong = {
            "one place more": [0, 1, 3, 5],
            "one more, joined to the second end": [0, 3, 4, 5],
            "one less": [0, 3],
            "another one less": [0, 5],
            "without the first end": [3, 5],
            "without the first end, no road out": [2],
            "with the second one": [0, 1, 3, 4, 5],
            "all places": [0, 1, 2, 3, 4, 5],
            "one twice": [0, 3, 3, 5],
            "the first one twice": [0, 0, 3, 5],
            "the last one twice": [0, 3, 5, 5],
            "turned about": [5, 3, 0],
            "two exchanged": [0, 5, 3],
            "no place": [0, 3, 5, 6],
            "below 0": [-1, 0, 3, 5],
            "below 0, another name of a place": [-6, 3, 5],
            "very great": [0, 3, 5, VERY_GREAT],
            "very far below 0": [-VERY_GREAT, 0, 3, 5],
            "empty": [],
            "the first end alone": [0],
            "the second end's side": [1, 4],
        }
        for name, places in wrong.items():
            with self.subTest(name):
                self.cuts(False, 0, 1, places)

    def test_none_where_there_is_a_way(self):
        for size in range(7):
            for places in itertools.combinations(range(6), size):
                self.cuts(False, 0, 5, list(places))

    def test_every_list(self):
        web = (4, [(0, 2), (1, 3)])
        for one, other in itertools.permutations(range(4), 2):
            for size in range(5):
                for places in map(list, itertools.product(range(-1, 5), repeat=size)):
                    self.assertIs(is_cut(web, one, other, places), plainly_right(web, one, other, places))

    def test_no_ends_ahead_of_all(self):
        for one, other in wrong_ends(WEB):
            for places in ([], [0], [0, 3, 5], [5, 3], [-1], [VERY_GREAT], [0, 0]):
                self.refuses(NoEnds, is_cut, WEB, one, other, places)
