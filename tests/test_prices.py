import copy
import random

from onceways.errors import NoNumber, NoWay, TooMany
from onceways.numbers import set_by_number
from onceways.papers import paper_shows
from onceways.prices import cheapest_sets, least_price, price_paper
from onceways.tables import closed_table, ways_table
from onceways.webs import grid
from tests.support import (ALL_SETS, FULL_FOUR, VERY_GREAT, Case, all_sets, family_with, gone_closed, gone_sets,
                           plain_table, random_family, row_of)

THIRTY_FIGURES = 10 ** 30 - 1


def price_of(roads, prices):
    return sum(prices[road] for road in roads)


def all_priced(sets, prices):
    return sorted((price_of(roads, prices), roads) for roads in map(list, sets))


def price_lists(source, roads):
    """Prices of many kinds for so many roads."""
    yield [1] * roads
    yield [0] * roads
    yield [-1] * roads
    yield [source.randint(-2, 2) for nothing in range(roads)]
    yield [source.randint(1, 9) for nothing in range(roads)]
    yield [source.randint(-THIRTY_FIGURES, THIRTY_FIGURES) for nothing in range(roads)]
    yield [source.choice([THIRTY_FIGURES, -THIRTY_FIGURES]) for nothing in range(roads)]


def priced_families(seed):
    """Lists of sets, each with prices of its roads."""
    source = random.Random(seed)
    families = [[[]], [[0]], [[], [0]], [[29]], [[0, 1], [0, 2], [1]], all_sets(4), all_sets(3)[1:]]
    families += [random_family(source, roads, source.randint(1, 40)) for roads in (3, 5, 9, 30) for nothing in range(5)]
    for sets in families:
        most = max(max(roads, default=-1) for roads in sets) + 1
        for prices in price_lists(source, most):
            yield sets, prices


class LeastPriceTest(Case):
    def test_by_hand(self):
        table = plain_table([[0, 1], [2], [1, 3]])
        self.tells((5, [2]), least_price, copy.deepcopy(table), [4, 2, 5, 9])
        self.tells((3, [0, 1]), least_price, copy.deepcopy(table), [1, 2, 5, 9])
        self.tells((-8, [1, 3]), least_price, copy.deepcopy(table), [1, 2, 5, -10])

    def test_none_and_the_set_without_roads_alone(self):
        for prices in ([], [7], [-7, 3], [THIRTY_FIGURES] * 30):
            self.tells(None, least_price, (0, []), list(prices))
            self.tells((0, []), least_price, (1, []), list(prices))

    def test_by_trial(self):
        for sets, prices in priced_families(101):
            self.tells(all_priced(sets, prices)[0], least_price, plain_table(sets), list(prices))

    def test_the_first_one_where_all_are_alike(self):
        for sets in ([[1, 2], [0, 3]], [[2], [1], [0]], [[0, 1, 2], [0, 1]], all_sets(4), [[0], [], [1]]):
            self.tells((0, min(sets)), least_price, plain_table(sets), [0] * 4)
        self.tells((2, [0, 3]), least_price, plain_table([[1, 2], [0, 3]]), [1] * 4)
        self.tells((0, [0]), least_price, plain_table([[0], [0, 1]]), [0, 0])
        self.tells((-1, [0, 1]), least_price, plain_table([[0], [0, 1], [0, 1, 2]]), [0, -1, 0])
        self.tells((0, [1]), least_price, plain_table([[2], [1, 2], [1]]), [5, 0, 0])

    def test_the_set_without_roads_and_prices_below_nought(self):
        self.tells((0, []), least_price, plain_table([[], [0]]), [3])
        self.tells((0, []), least_price, plain_table([[], [0]]), [0])
        self.tells((-3, [0]), least_price, plain_table([[], [0]]), [-3])
        self.tells((-6, [0, 1, 2]), least_price, plain_table(all_sets(3)), [-1, -2, -3])
        self.tells((-4, [0, 1, 2]), least_price, plain_table(all_sets(3)), [-1, 0, -3])

    def test_more_prices_than_roads(self):
        for more in ([], [-100], [-100, 100, -THIRTY_FIGURES], [0] * 40):
            self.tells((4, [1]), least_price, plain_table([[0, 1], [1]]), [1, 4, *more])

    def test_very_many_sets(self):
        source = random.Random(102)
        for nothing in range(10):
            prices = [source.choice([-THIRTY_FIGURES, -1, 1, 5]) for road in range(30)]
            roads = [road for road in range(30) if prices[road] < 0]
            self.tells((price_of(roads, prices), roads), least_price, copy.deepcopy(ALL_SETS), prices)

    def test_ways(self):
        source = random.Random(103)
        web = row_of([FULL_FOUR] * 5)
        for prices in price_lists(source, 30):
            least = all_priced(gone_sets(web, 0, 15), prices)[0]
            self.assertEqual(least_price(ways_table(web, 0, 15), prices), least)
            least = all_priced(gone_closed(grid(4, 4)), prices)[0]
            self.assertEqual(least_price(closed_table(grid(4, 4)), prices), least)

    def test_tables_of_eight_hundred_nodes(self):
        source = random.Random(104)
        sets = family_with(800)
        for prices in price_lists(source, 30):
            self.assertEqual(least_price(plain_table(sets), prices), all_priced(sets, prices)[0])


class PricePaperTest(Case):
    def test_shows_the_least_price(self):
        for sets, prices in priced_families(111):
            table = plain_table(sets)
            least = all_priced(sets, prices)[0][0]
            paper = price_paper(table, prices)
            self.assertEqual(len(paper), len(table[1]))
            self.assertTrue(all(isinstance(number, int) for number in paper))
            self.assertIs(paper_shows(table, prices, paper, least), True)
            for other in (least - 1, least + 1):
                self.assertIs(paper_shows(table, prices, paper, other), False)

    def test_is_the_asker_s_own(self):
        for sets, prices in priced_families(112):
            paper = price_paper(plain_table(sets), prices)
            self.tells(paper, price_paper, plain_table(sets), prices)

    def test_none_and_the_set_without_roads_alone(self):
        for prices in ([], [7], [-7, 3]):
            self.refuses(NoWay, price_paper, (0, []), prices)
            self.tells([], price_paper, (1, []), list(prices))

    def test_very_many_sets(self):
        prices = [(-1) ** road * 10 ** road for road in range(30)]
        paper = price_paper(ALL_SETS, prices)
        self.assertIs(paper_shows(ALL_SETS, prices, paper, sum(price for price in prices if price < 0)), True)

    def test_more_prices_than_roads(self):
        self.tells([4, 4], price_paper, plain_table([[0, 1], [1]]), [0, 4, -100])
        self.tells([4, 4], price_paper, plain_table([[0, 1], [1]]), [0, 4])


class CheapestSetsTest(Case):
    def test_by_hand(self):
        table = plain_table([[0, 1], [2], [1, 3], [3]])
        prices = [4, 2, 6, 4]
        told = [(4, [3]), (6, [0, 1]), (6, [1, 3]), (6, [2])]
        for k in range(7):
            self.tells([(price, list(roads)) for price, roads in told[:k]], cheapest_sets, copy.deepcopy(table),
                       list(prices), k)

    def test_by_trial(self):
        for sets, prices in priced_families(121):
            priced = all_priced(sets, prices)
            for k in {0, 1, 2, 7, len(sets) - 1, len(sets), len(sets) + 1, 99, 100}:
                if k <= 100:
                    self.tells(copy.deepcopy(priced[:k]), cheapest_sets, plain_table(sets), list(prices), k)

    def test_none_and_the_set_without_roads_alone(self):
        for k in (0, 1, 2, 100):
            self.tells([], cheapest_sets, (0, []), [], k)
            self.tells([(0, [])][:k], cheapest_sets, (1, []), [], k)
            self.tells([(0, [])][:k], cheapest_sets, (1, []), [-5], k)

    def test_a_hundred_and_one(self):
        tables = [(0, []), (1, []), plain_table([[0]]), plain_table(all_sets(7)), ALL_SETS]
        for table in tables:
            for k in (101, 102, 300, VERY_GREAT):
                self.refuses(TooMany, cheapest_sets, table, [1] * 30, k)
            for k in (-1, -2, -101, -VERY_GREAT):
                self.refuses(NoNumber, cheapest_sets, table, [1] * 30, k)

    def test_a_hundred_of_more(self):
        sets = all_sets(8)
        source = random.Random(122)
        for prices in price_lists(source, 8):
            for k in (98, 99, 100):
                self.tells(all_priced(sets, prices)[:k], cheapest_sets, plain_table(sets), list(prices), k)

    def test_as_many_as_there_are_and_more(self):
        sets = [[], [0], [0, 1], [1], [2]]
        priced = all_priced(sets, [1, -1, 0])
        self.assertEqual(priced, [(-1, [1]), (0, []), (0, [0, 1]), (0, [2]), (1, [0])])
        for k in (5, 6, 50, 100):
            self.tells(copy.deepcopy(priced), cheapest_sets, plain_table(sets), [1, -1, 0], k)

    def test_all_alike_is_the_order_of_numbers(self):
        told = cheapest_sets(ALL_SETS, [0] * 30, 100)
        self.assertEqual(told, [(0, set_by_number(ALL_SETS, number)) for number in range(100)])

    def test_the_first_is_the_least(self):
        for sets, prices in priced_families(123):
            self.assertEqual(cheapest_sets(plain_table(sets), prices, 1), [least_price(plain_table(sets), prices)])

    def test_ways(self):
        web = row_of([FULL_FOUR] * 5)
        sets = gone_sets(web, 0, 15)
        for prices in price_lists(random.Random(124), 30):
            self.assertEqual(cheapest_sets(ways_table(web, 0, 15), prices, 100), all_priced(sets, prices)[:100])

    def test_tables_of_eight_hundred_nodes(self):
        sets = family_with(800)
        prices = [road % 4 - 1 for road in range(30)]
        self.assertEqual(cheapest_sets(plain_table(sets), prices, 100), all_priced(sets, prices)[:100])
