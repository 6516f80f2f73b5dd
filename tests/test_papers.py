import copy
import itertools
import random

from onceways.papers import paper_shows
from onceways.prices import price_paper
from onceways.tables import sets_of, ways_table
from onceways.webs import grid
from tests.support import ALL_SETS, VERY_GREAT, Case, all_sets, family_with, plain_table, random_family


def plainly_shows(table, prices, paper, price):
    """As point 34 says it, number by number."""
    root, nodes = table
    if root == 0 or len(paper) != len(nodes):
        return False
    for own, (road, low, high) in zip(paper, nodes):
        if low == 1 and own > 0 or low > 1 and own > paper[low - 2]:
            return False
        if own > prices[road] + (0 if high == 1 else paper[high - 2]):
            return False
    return price == (0 if root == 1 else paper[root - 2])


def least_of(sets, prices):
    return min(sum(prices[road] for road in roads) for roads in sets)


class PaperShowsTest(Case):
    def test_all_small_papers(self):
        families = [[[0]], [[], [0]], [[0], [1]], [[0, 1], [1]], [[], [0, 1]], [[0, 1], [0]], all_sets(2)]
        for sets in families:
            table = plain_table(sets)
            for prices in itertools.product((-1, 0, 2), repeat=2):
                for paper in itertools.product(range(-2, 4), repeat=len(table[1])):
                    for price in range(-3, 5):
                        told = paper_shows(table, list(prices), list(paper), price)
                        self.assertIs(told, plainly_shows(table, prices, paper, price))
                        self.assertFalse(told and price > least_of(sets, prices))

    def test_what_is_handed_in_stays(self):
        table = plain_table([[0, 1], [1, 2]])
        self.tells(True, paper_shows, copy.deepcopy(table), [1, 2, 3], price_paper(table, [1, 2, 3]), 3)
        self.tells(False, paper_shows, copy.deepcopy(table), [1, 2, 3], price_paper(table, [1, 2, 3]), 4)

    def test_no_set(self):
        for paper in ([], [0], [1, 2]):
            for price in (0, 1, -1, VERY_GREAT):
                self.tells(False, paper_shows, (0, []), [], list(paper), price)
                self.tells(False, paper_shows, (0, []), [5], list(paper), price)

    def test_the_set_without_roads_alone(self):
        self.tells(True, paper_shows, (1, []), [], [], 0)
        self.tells(True, paper_shows, (1, []), [-5], [], 0)
        for price in (1, -1, VERY_GREAT, -VERY_GREAT):
            self.tells(False, paper_shows, (1, []), [], [], price)
        for paper in ([0], [0, 0]):
            self.tells(False, paper_shows, (1, []), [], list(paper), 0)

    def test_told_papers_and_others_near_them(self):
        source = random.Random(131)
        for roads in (3, 5, 9, 30):
            for nothing in range(6):
                sets = random_family(source, roads, 12) + [[0]]
                prices = [source.randint(-9, 9) for road in range(roads)]
                self.near(plain_table(sets), prices, least_of(sets, prices))

    def near(self, table, prices, least):
        paper = price_paper(table, prices)
        self.assertIs(paper_shows(table, prices, paper, least), True)
        lesser = [paper[0] - 1] + paper[1:]
        self.assertIs(paper_shows(table, prices, lesser, least - 1), True)
        self.assertIs(paper_shows(table, prices, lesser, least), False)
        for other in (paper + [0], paper + [paper[-1]], paper[:-1], paper[1:], []):
            self.assertIs(paper_shows(table, prices, other, least), False)
        for price in (least - 1, least + 1, -least - 1, VERY_GREAT, -VERY_GREAT):
            self.assertIs(paper_shows(table, prices, paper, price), False)
        for place in range(len(paper)):
            for more in (1, -1, 2, -7, VERY_GREAT, -VERY_GREAT):
                other = paper[:place] + [paper[place] + more] + paper[place + 1:]
                for price in (least, least + more):
                    self.assertIs(paper_shows(table, prices, other, price),
                                  plainly_shows(table, prices, other, price))

    def test_too_great_anywhere(self):
        table = ways_table(grid(3, 3), 0, 8)
        prices = [3, 1, 4, 1, 5, 9, 2, 6, 5, 3, 5, 8]
        paper = price_paper(table, prices)
        least = least_of(sets_of(table), prices)
        for place in range(len(paper)):
            other = paper[:place] + [paper[place] + 1] + paper[place + 1:]
            self.tells(False, paper_shows, copy.deepcopy(table), list(prices), other, least)

    def test_a_lesser_price(self):
        table = plain_table([[0, 1], [1, 2]])
        prices = [1, 2, 3]
        for less in (1, 5, 10 ** 29):
            paper = [number - less for number in price_paper(table, prices)]
            lowered = [3 - less] + price_paper(table, prices)[1:]
            self.tells(True, paper_shows, copy.deepcopy(table), list(prices), lowered, 3 - less)
            self.assertIs(paper_shows(table, prices, paper, 3 - less), True)

    def test_papers_that_show_are_never_above_the_least(self):
        source = random.Random(132)
        shown = 0
        for nothing in range(300):
            sets = random_family(source, 4, 6) + [[0]]
            prices = [source.randint(-2, 2) for road in range(4)]
            table = plain_table(sets)
            paper = [number + source.choice([0, 0, 0, -1, 1]) for number in price_paper(table, prices)]
            for price in range(-9, 9):
                if paper_shows(table, prices, paper, price):
                    shown += 1
                    self.assertLessEqual(price, least_of(sets, prices))
        self.assertGreater(shown, 20)

    def test_great_prices_and_more_than_needed(self):
        great = 10 ** 30 - 1
        table = plain_table([[0, 1], [1]])
        for prices in ([great, -great], [-great, -great], [great, great], [great, great, -great]):
            least = least_of([[0, 1], [1]], prices)
            self.tells(True, paper_shows, copy.deepcopy(table), prices, price_paper(table, prices), least)

    def test_very_many_sets_and_eight_hundred_nodes(self):
        prices = [road - 15 for road in range(30)]
        paper = price_paper(ALL_SETS, prices)
        self.assertIs(paper_shows(ALL_SETS, prices, paper, -120), True)
        self.assertIs(paper_shows(ALL_SETS, prices, paper, -119), False)
        sets = family_with(800)
        paper = price_paper(plain_table(sets), prices)
        self.assertIs(paper_shows(plain_table(sets), prices, paper, least_of(sets, prices)), True)
