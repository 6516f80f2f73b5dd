"""The promise of the whole: what the parts of the program say of the same ways agrees, by trial on small webs."""

import itertools
import random

from onceways.counts import by_length, closed_by_length, count, count_closed
from onceways.cuts import cut, is_cut
from onceways.desk import Desk
from onceways.joined import both_of, either_of, first_without
from onceways.numbers import how_many, number_of_set, set_by_number
from onceways.papers import paper_shows
from onceways.prices import cheapest_sets, least_price, price_paper
from onceways.tables import closed_table, has_set, sets_of, ways_table
from onceways.texts import read_web, read_wish, show_web, show_wish
from onceways.webs import grid, reordered
from onceways.wishes import wish_table, wished
from tests.support import Case, all_pairs, binding_wish, every_one, plainly_wished, random_webs, ringed_web


def small_webs(seed):
    yield from random_webs(seed, 25, 5)
    yield from (grid(2, 3), grid(3, 2), (5, all_pairs(5)), (3, []), (2, [(0, 1)]))


def ways_of(web, wish):
    return [way for way in every_one(web) if plainly_wished(web, wish, way)]


def row(*words):
    return " ".join(map(str, words))


def desk_of(web, **wishes):
    desk = Desk()
    for said in [row("web", show_web(web))] + [row("wish", name, show_wish(wish)) for name, wish in wishes.items()]:
        assert desk.say(said) == "ok"
    return desk


class DeskTest(Case):
    def test_from_texts_to_ways_and_back(self):
        source = random.Random(201)
        for web in small_webs(202):
            for depth in (1, 2, 3, 4):
                wish = binding_wish(source, web, depth)
                desk = desk_of(web, a=wish)
                self.assertEqual(read_web(desk.say("web")), web)
                self.assertEqual(read_wish(desk.say("text a")), wish)
                self.tells_ways(desk, sorted(ways_of(web, wish), key=lambda way: way[2]))

    def tells_ways(self, desk, ways):
        self.assertEqual(desk.say("count a"), str(len(ways)))
        for number, (ends, places, roads) in enumerate(ways):
            self.assertEqual(desk.say(row("set", "a", number)), row(*roads))
            self.assertEqual(desk.say(row("way", "a", number)), row(*places))
            self.assertEqual(desk.say(row("number", "a", *roads)), str(number))
            self.assertEqual(desk.say(row("has", "a", *roads)), "yes")
        lengths = [len(roads) for ends, places, roads in ways]
        told = [lengths.count(many) for many in range(max(lengths, default=-1) + 1)]
        self.assertEqual(desk.say("lengths a"), row(*told) if told else "none")

    def test_has_just_these(self):
        source = random.Random(203)
        for web in small_webs(204):
            wish = binding_wish(source, web, 3)
            desk = desk_of(web, a=wish)
            for way in every_one(web):
                answer = plainly_wished(web, wish, way)
                self.assertEqual(desk.say(row("has", "a", *way[2])), "yes" if answer else "no")
                self.assertIs(wished(web, wish, way[2]), answer)

    def test_alike_just_where_the_tables_are_one(self):
        source = random.Random(205)
        alike = 0
        for web in small_webs(206):
            for nothing in range(8):
                one, other = binding_wish(source, web, 3), binding_wish(source, web, 2)
                same = sorted(ways_of(web, one)) == sorted(ways_of(web, other))
                alike += same
                self.assertEqual(desk_of(web, a=one, b=other).say("alike a b"), "yes" if same else "no")
                self.assertIs(wish_table(web, one) == wish_table(web, other), same)
        self.assertGreater(alike, 10)

    def test_least_price_against_all_ways(self):
        source = random.Random(207)
        for web in small_webs(208):
            for depth in (1, 3):
                wish = binding_wish(source, web, depth)
                prices = [source.choice([-3, 0, 1, 2, 10 ** 29]) for road in web[1]]
                priced = sorted((sum(prices[road] for road in way[2]), way[2]) for way in ways_of(web, wish))
                told = desk_of(web, a=wish).say(row("least", "a", *prices))
                self.assertEqual(told, row(priced[0][0], *priced[0][1]) if priced else "none")

    def test_whatever_order_the_roads_stand_in(self):
        source = random.Random(209)
        for web in small_webs(210):
            wish = ("or", ("but", ("open", 0, 1), ("past", (web[0] - 1,))), ("and", ("closed",), ("shy",)))
            ways = sorted(row(*way[1]) for way in ways_of(web, wish))
            other = reordered(web, source.sample(range(len(web[1])), len(web[1])))
            desk = desk_of(other, a=wish)
            told = [desk.say(row("way", "a", number)) for number in range(int(desk.say("count a")))]
            self.assertEqual(sorted(told), ways)


class PartsTest(Case):
    def test_tables_counts_and_numbers(self):
        for web in small_webs(211):
            for ends in itertools.combinations(range(web[0]), 2):
                ways = sorted(roads for pair, places, roads in every_one(web) if pair == ends)
                self.agree(web, ways, ways_table(web, *ends), count(web, *ends), by_length(web, *ends))
            rings = sorted(roads for pair, places, roads in every_one(web) if pair == ())
            self.agree(web, rings, closed_table(web), count_closed(web), closed_by_length(web))

    def agree(self, web, sets, table, many, lengths):
        self.assertEqual(sets_of(table), sets)
        self.assertEqual((many, how_many(table), sum(lengths)), (len(sets),) * 3)
        self.assertEqual([set_by_number(table, number) for number in range(many)], sets)
        self.assertEqual([number_of_set(table, roads) for roads in sets], list(range(many)))
        self.assertEqual(lengths, [sum(len(roads) == size for roads in sets) for size in range(len(lengths))])

    def test_joined_tables(self):
        for seed in range(3):
            web = ringed_web(seed, 19)
            one, other = ways_table(web, 0, 8), closed_table(web)
            common = either_of(one, other)
            self.assertEqual(how_many(common), how_many(one) + how_many(other))
            self.assertEqual(first_without(common, other), one)
            self.assertEqual(both_of(common, other), other)

    def test_no_way_costs_less_by_numbers_that_a_walker_lets_by(self):
        source = random.Random(212)
        for seed in range(4):
            web = ringed_web(seed, 22)
            table = ways_table(web, 0, 8)
            prices = [source.randint(-5, 9) for road in web[1]]
            price, roads = least_price(table, prices)
            self.assertIs(paper_shows(table, prices, price_paper(table, prices), price), True)
            self.assertIs(has_set(table, roads), True)
            self.assertEqual(cheapest_sets(table, prices, 1), [(price, roads)])

    def test_a_cut_or_a_way(self):
        for web in small_webs(213):
            for one, other in itertools.permutations(range(web[0]), 2):
                places = cut(web, one, other)
                self.assertIs(places is None, count(web, one, other) > 0)
                if places is not None:
                    self.assertIs(is_cut(web, one, other, places), True)
                    self.assertEqual(ways_table(web, one, other), (0, []))
