import copy
import itertools
import random

from onceways.errors import NoEnds, NoTable, NoWay, TooMany
from onceways.shy import closed_through_all, over_places, shy_closed, shy_table, through_all
from onceways.tables import closed_table, is_least, sets_of, ways_table
from onceways.webs import grid, reordered
from onceways.wishes import is_wish, wish_table, wished
from tests.support import (LEAF_WORDS, THINGS, VERY_GREAT, Case, all_pairs, all_sets, binding_wish, every_one,
                           gone_closed, gone_sets, plain_table, plainly_binds, plainly_wished, random_leaf, random_webs,
                           random_wish, ringed_web, shuffled)

LEAVES = [("open", 0, 1), ("closed",), ("with", (0, 2)), ("off", (1,)), ("over", (3, 0)), ("past", (2,)),
          ("long", 0, 5), ("shy",), ("all",), ("with", ()), ("off", ()), ("over", ()), ("past", ()),
          ("with", (3, 3, 0)),
          ("open", 5, 5), ("long", 7, 2)]


def fresh(web):
    return (web[0], list(web[1]))


def deep_wish(depth):
    wish = ("shy",)
    for k in range(depth - 1):
        wish = ("and", wish, ("closed",)) if k % 2 else ("but", ("open", 0, k), wish)
    return wish


def one_sided(word, depth, side, leaf=("closed",)):
    """Of this depth, the deeper part always on this side, 0 or 1."""
    wish = leaf
    for nothing in range(depth - 1):
        wish = (word, ("shy",), wish) if side else (word, wish, ("shy",))
    return wish


def full_wish(depth, word="or"):
    wish = ("closed",)
    for nothing in range(depth - 1):
        wish = (word, wish, wish)
    return wish


class LikeAll:
    """Equal to whatever it is held against."""

    def __eq__(self, other):
        return True

    def __hash__(self):
        return 0


class IsWishTest(Case):
    def is_none(self, thing):
        self.assertIs(is_wish(thing), False, thing)

    def test_each_form(self):
        for leaf in LEAVES:
            self.tells(True, is_wish, leaf)
        for word in ("and", "or", "but"):
            for one, other in itertools.product(LEAVES, repeat=2):
                self.tells(True, is_wish, (word, one, other))

    def test_things_of_any_kind(self):
        for thing in THINGS:
            self.is_none(thing)
            for word in ("and", "or", "but"):
                self.is_none((word, thing, ("closed",)))
                self.is_none((word, ("closed",), thing))
            for word in ("with", "off", "over", "past"):
                if thing != ():
                    self.is_none((word, thing))
                self.is_none((word, (0, thing)) if thing not in (0, 1) or isinstance(thing, bool) else (word, thing))
            for word in ("open", "long"):
                if thing not in (0, 1) or isinstance(thing, bool):
                    self.is_none((word, thing, 1))
                    self.is_none((word, 1, thing))
            self.is_none((thing,))
            self.is_none((thing, 0, 1))
            self.is_none((thing, (0, 1)))
            self.is_none((thing, ("closed",), ("shy",)))

    def test_one_thing_too_many_or_too_few(self):
        for leaf in LEAVES + [("and", ("shy",), ("all",)), ("or", ("shy",), ("all",)), ("but", ("shy",), ("all",))]:
            for more in (0, (), ("closed",), None, "and", (0,)):
                self.is_none((*leaf, more))
            self.is_none(leaf[:-1])
            self.is_none(leaf[1:])
            self.is_none(list(leaf))
            self.is_none((leaf,))
        for word in (*LEAF_WORDS, "and", "or", "but"):
            if word not in ("closed", "shy", "all"):
                self.is_none((word,))
            self.is_none(word)

    def test_a_list_where_a_tuple_is_told(self):
        for thing in (["closed"], ["open", 0, 1], ("with", [0, 1]), ("with", []), ("off", [0]), ("over", []),
                      ("past", [1]), ["and", ("shy",), ("all",)], ("and", ["shy"], ("all",)), ("or", ("shy",), ["all"]),
                      ("but", ("shy",), ("with", []))):
            self.is_none(thing)

    def test_a_truth_where_a_number_is_told(self):
        for thing in (("open", True, 0), ("open", 0, False), ("long", False, 3), ("long", 0, True), ("with", (True,)),
                      ("off", (0, False)), ("over", (True, 2)), ("past", (False,)),
                      ("and", ("shy",), ("over", (True,)))):
            self.is_none(thing)

    def test_least_and_greatest_numbers(self):
        for number, right in ((0, True), (1, True), (9998, True), (9999, True), (10000, False), (-1, False),
                              (VERY_GREAT, False), (-VERY_GREAT, False), (1.0, False), ("1", False)):
            for wish in (("open", number, 0), ("open", 0, number), ("long", number, 0), ("long", 0, number),
                         ("with", (number,)), ("off", (0, number)), ("over", (number, 0)), ("past", (number,)),
                         ("and", ("shy",), ("long", 3, number)), ("or", ("open", number, 1), ("all",))):
                self.tells(right, is_wish, wish)

    def test_other_first_words(self):
        for word in ("Open", "opens", "CLOSED", " closed", "closed ", "", "not", "xor", "shy\n", b"shy", 0, None, True,
                     ("shy",), ["shy"]):
            for rest in ((), (0, 1), ((0, 1),), (("shy",), ("all",))):
                self.is_none((word, *rest))
        for rest in ((), (0, 1), ((0, 1),), (("shy",), ("all",))):
            self.is_none((LikeAll(), *rest))

    def test_depths(self):
        for depth in range(1, 13):
            self.tells(depth <= 8, is_wish, deep_wish(depth))
            for word in ("and", "or", "but"):
                self.tells(depth <= 8, is_wish, full_wish(depth, word))
                for side in (0, 1):
                    self.tells(depth <= 8, is_wish, one_sided(word, depth, side))

    def test_depth_of_each_leaf(self):
        for leaf in LEAVES:
            for word in ("and", "or", "but"):
                for side in (0, 1):
                    self.tells(True, is_wish, one_sided(word, 8, side, leaf))
                    self.tells(False, is_wish, one_sided(word, 9, side, leaf))

    def test_depth_of_the_greater_within(self):
        for word, one, other in itertools.product(("and", "or", "but"), range(1, 10), range(1, 10)):
            for side in (0, 1):
                thing = (word, one_sided("or", one, side), one_sided("and", other, 1 - side))
                self.tells(max(one, other) <= 7, is_wish, thing)

    def test_depth_where_one_part_alone_lies_too_deep(self):
        for sides in itertools.product((0, 1), repeat=7):
            thing = ("and", ("shy",), ("all",))
            for depth, side in enumerate(sides, 2):
                beside = full_wish(depth - 1)
                thing = ("or", beside, thing) if side else ("or", thing, beside)
            self.tells(False, is_wish, thing)
            self.tells(True, is_wish, thing[2 if sides[-1] else 1])

    def test_a_part_within_itself_ever_deeper(self):
        for depth in (30, 300):
            self.assertIs(is_wish(full_wish(depth)), False)
            self.assertIs(is_wish(("and", full_wish(depth), ("closed",))), False)
            self.assertIs(is_wish(("and", ("closed",), full_wish(depth))), False)

    def test_wrong_parts_at_each_depth(self):
        for wrong in (("shy", 0), ["shy"], None, ("open", 0, True), ("and", ("shy",)), ("with", (10000,)), "shy", ()):
            for word, side, depth in itertools.product(("and", "or", "but"), (0, 1), range(1, 12)):
                self.is_none(one_sided(word, depth, side, wrong))


class WishedTest(Case):
    def test_each_form_by_trial(self):
        for web in list(random_webs(161, 12, 5)) + [grid(2, 3), (4, all_pairs(4))]:
            source = random.Random(web[0])
            ways = every_one(web)
            wishes = [random_leaf(source, web, (word,)) for word in LEAF_WORDS for nothing in range(6)]
            for wish, way in itertools.product(wishes, ways):
                self.assertIs(wished(web, wish, way[2]), plainly_wished(web, wish, way))

    def test_joined_by_trial(self):
        source = random.Random(162)
        for web in list(random_webs(163, 12, 5)) + [grid(2, 3), (4, all_pairs(4))]:
            ways = every_one(web)
            for depth in (2, 2, 3, 4, 8):
                wish = random_wish(source, web, depth)
                for way in ways:
                    self.assertIs(wished(web, wish, way[2]), plainly_wished(web, wish, way))

    def test_by_hand(self):
        web = (4, [(0, 1), (1, 2), (2, 3), (0, 2)])
        for wish, one, ring in ((("open", 0, 3), True, False), (("open", 3, 0), True, False),
                                (("open", 0, 2), False, False), (("closed",), False, True), (("with", ()), True, True),
                                (("with", (0, 1)), True, True), (("with", (3,)), False, True),
                                (("off", ()), True, True),
                                (("off", (3,)), True, False), (("off", (2, 2)), False, True),
                                (("over", (0, 1, 2)), True, True), (("over", (3,)), True, False),
                                (("past", (3,)), False, True), (("past", ()), True, True), (("long", 3, 3), True, True),
                                (("long", 0, 2), False, False), (("long", 4, 9999), False, False),
                                (("long", 4, 2), False, False), (("shy",), False, True), (("all",), True, False)):
            self.tells(one, wished, fresh(web), wish, [0, 1, 2])
            self.tells(ring, wished, fresh(web), wish, [0, 1, 3])

    def test_no_ends_wherever_and_ahead_of_no_way(self):
        web = grid(2, 3)
        for ends in ((0, 0), (5, 5), (0, 6), (6, 0), (6, 7), (9999, 0), (0, 9999), (9999, 9999)):
            wrong = ("open", *ends)
            for wish in (wrong, ("and", wrong, ("shy",)), ("or", ("open", 0, 1), wrong), ("but", ("closed",), wrong),
                         ("or", ("with", (99,)), wrong), ("or", wrong, ("past", (6,))),
                         ("and", ("closed",), ("but", ("shy",), ("or", ("over", (9999,)), wrong)))):
                for roads in ([0], [], [0, 1, 2, 3], [99], [1, 0]):
                    self.refuses(NoEnds, wished, web, wish, roads)
                self.refuses(NoEnds, wish_table, web, wish)
        self.refuses(NoEnds, wished, (1, []), ("open", 0, 1), [])

    def test_roads_and_places_that_are_none(self):
        web = grid(2, 3)
        for wrong in (("with", (7,)), ("off", (7,)), ("with", (0, 9999)), ("off", (8, 1)), ("over", (6,)),
                      ("past", (6,)), ("over", (0, 7)), ("past", (9999, 0))):
            for wish in (wrong, ("and", wrong, ("closed",)), ("or", ("open", 0, 1), wrong), ("but", ("closed",), wrong),
                         ("and", ("closed",), ("but", ("shy",), ("or", ("all",), wrong)))):
                for roads in ([0], [0, 1, 3, 5], []):
                    self.refuses(NoWay, wished, web, wish, roads)
                self.refuses(NoWay, wish_table, web, wish)
        for right in (("with", (6,)), ("off", (6, 0)), ("over", (5,)), ("past", (5, 0)), ("long", 9999, 9999)):
            self.assertIsInstance(wished(web, right, [0]), bool)

    def test_lists_that_are_the_set_of_no_way(self):
        web = (5, [(0, 1), (1, 2), (2, 3), (0, 2), (3, 4)])
        sets = [roads for ends, places, roads in every_one(web)]
        for roads in all_sets(5):
            if roads not in sets:
                self.refuses(NoWay, wished, web, ("or", ("shy",), ("closed",)), roads)
        for roads in ([], [1, 0], [0, 0], [0, 1, 1], [-1], [-1, 0], [5], [0, 5], [VERY_GREAT], [3, 1, 0], [0, 3, 1],
                      [-VERY_GREAT, 0], [0, 2], [0, 1, 2, 3, 4]):
            for wish in (("closed",), ("with", ()), ("or", ("open", 0, 1), ("shy",))):
                self.refuses(NoWay, wished, web, wish, roads)
        for roads in ([], [0], [-1]):
            self.refuses(NoWay, wished, (1, []), ("shy",), roads)

    def test_two_pieces_and_a_ring_beside(self):
        web = (7, [(0, 1), (1, 2), (0, 2), (3, 4), (4, 5), (5, 6), (3, 6)])
        for roads in ([0, 1, 2, 3], [0, 3], [0, 1, 2, 3, 4, 5, 6], [0, 1, 4]):
            self.refuses(NoWay, wished, web, ("off", ()), roads)
        self.tells(True, wished, fresh(web), ("closed",), [3, 4, 5, 6])


class WishTableTest(Case):
    def is_table_of(self, web, wish, ways):
        sets = [roads for ends, places, roads in ways if plainly_wished(web, wish, (ends, places, roads))]
        told = wish_table(web, wish)
        self.assertEqual(told, plain_table(sets))
        self.assertIs(is_least(web, told), True)

    def test_leaves(self):
        for web in list(random_webs(171, 10, 5)) + [grid(2, 3), grid(3, 2)]:
            for one, other in ((0, 1), (2, 0)):
                self.tells(ways_table(web, one, other), wish_table, fresh(web), ("open", one, other))
            self.tells(closed_table(web), wish_table, fresh(web), ("closed",))

    def test_each_form_within_and_or_and_but(self):
        source = random.Random(172)
        for web in list(random_webs(173, 12, 5)) + [grid(2, 3), (5, all_pairs(5))]:
            ways = every_one(web)
            for word in LEAF_WORDS:
                leaf = random_leaf(source, web, (word,))
                for bound in (("open", 0, 2), ("closed",), ("or", ("closed",), ("open", 1, 0))):
                    for wish in (("and", leaf, bound), ("and", bound, leaf), ("but", bound, leaf)):
                        self.is_table_of(web, wish, ways)

    def test_any_wish_that_binds(self):
        source = random.Random(174)
        for web in list(random_webs(175, 40, 5)) + [grid(2, 3), grid(3, 2), (5, all_pairs(5))]:
            ways = every_one(web)
            for depth in (2, 3, 4, 5):
                self.is_table_of(web, binding_wish(source, web, depth), ways)
        web = grid(2, 3)
        for nothing in range(6):
            self.is_table_of(web, binding_wish(source, web, 8), every_one(web))

    def test_deeper_things_are_not_refused_where_a_wish_is_handed_in(self):
        web = grid(2, 3)
        ways = every_one(web)
        for depth in (8, 9, 10, 12):
            thing = ("or", ("open", 0, 5), ("closed",))
            for k in range(depth - 2):
                thing = (("and", ("off", (k % 2,)), thing), ("or", thing, ("open", 0, 1 + k % 5)))[k % 2]
            self.is_table_of(web, thing, ways)
            for way in ways:
                self.assertIs(wished(web, thing, way[2]), plainly_wished(web, thing, way))

    def test_is_the_asker_s_own(self):
        web = grid(2, 3)
        for wish in (("closed",), ("open", 0, 5), ("and", ("open", 0, 5), ("over", ())),
                     ("or", ("closed",), ("closed",)),
                     ("and", ("with", ()), ("closed",)), ("but", ("closed",), ("shy",))):
            self.tells(copy.deepcopy(wish_table(web, wish)), wish_table, fresh(web), wish)

    def test_as_the_tables_of_stage_ten(self):
        for web in (grid(3, 3), ringed_web(4, 20)):
            last = web[0] - 1
            for wish, table in ((("and", ("open", 0, last), ("shy",)), shy_table(web, 0, last)),
                                (("and", ("shy",), ("closed",)), shy_closed(web)),
                                (("and", ("open", last, 0), ("all",)), through_all(web, 0, last)),
                                (("and", ("closed",), ("all",)), closed_through_all(web)),
                                (("and", ("over", (2, 3)), ("open", 0, last)), over_places(web, 0, last, [3, 2]))):
                self.assertEqual(wish_table(web, wish), table)

    def test_greater_webs(self):
        web = ringed_web(2, 21)
        ones, rings = gone_sets(web, 0, 8), gone_closed(web)
        places = {tuple(roads): {place for road in roads for place in web[1][road]} for roads in ones + rings}
        over = [roads for roads in ones if {3, 5} <= places[tuple(roads)]]
        past = [roads for roads in rings if not {1, 12} & places[tuple(roads)]]
        wish = ("or", ("and", ("open", 8, 0), ("over", (5, 3))),
                ("but", ("closed",), ("or", ("over", (1,)), ("over", (12,)))))
        self.assertEqual(wish_table(web, wish), plain_table(over + past))
        wish = ("or", ("and", ("closed",), ("past", (12, 1))), ("but", ("open", 0, 8), ("long", 4, 20)))
        self.assertEqual(wish_table(web, wish), plain_table(past + [roads for roads in ones if len(roads) < 4]))

    def test_what_does_not_bind(self):
        web = grid(2, 3)
        bound = ("open", 0, 5)
        for leaf in (("with", (0,)), ("off", ()), ("over", (1,)), ("past", (2,)), ("long", 0, 3), ("shy",), ("all",)):
            for wish in (leaf, ("and", leaf, leaf), ("or", leaf, bound), ("or", bound, leaf), ("or", leaf, leaf),
                         ("but", leaf, bound), ("but", leaf, leaf), ("or", ("and", bound, leaf), leaf),
                         ("and", ("or", bound, leaf), leaf), ("and", ("but", leaf, bound), ("or", bound, leaf)),
                         ("but", ("or", bound, leaf), bound), ("or", ("closed",), ("but", leaf, bound))):
                self.assertIs(plainly_binds(wish), False)
                self.refuses(NoTable, wish_table, web, wish)
            for wish in (("and", leaf, bound), ("and", bound, leaf), ("but", bound, leaf), ("or", bound, bound),
                         ("and", ("but", leaf, bound), bound), ("but", ("or", bound, ("closed",)), leaf),
                         ("and", ("or", bound, leaf), ("and", leaf, ("closed",)))):
                self.assertIs(plainly_binds(wish), True)
                self.is_table_of(web, wish, every_one(web))

    def test_any_wish_told_or_refused(self):
        source = random.Random(176)
        web = (5, all_pairs(5)[:8])
        ways = every_one(web)
        for nothing in range(150):
            wish = random_wish(source, web, source.randint(1, 5))
            if plainly_binds(wish):
                self.is_table_of(web, wish, ways)
            else:
                self.refuses(NoTable, wish_table, web, wish)

    def test_no_table_behind_no_ends_and_no_way(self):
        web = grid(2, 3)
        self.refuses(NoEnds, wish_table, web, ("or", ("open", 0, 0), ("shy",)))
        self.refuses(NoEnds, wish_table, web, ("or", ("open", 0, 0), ("with", (7,))))
        self.refuses(NoWay, wish_table, web, ("with", (7,)))
        self.refuses(NoWay, wish_table, web, ("or", ("open", 0, 1), ("over", (6,))))
        self.refuses(NoTable, wish_table, web, ("or", ("open", 0, 1), ("over", (5,))))

    def test_too_many_of_one_in_it(self):
        web = (10, all_pairs(8) + [(8, 9)])
        great, small = ("closed",), ("open", 8, 9)
        self.refuses(TooMany, closed_table, web)
        for wish in (great, ("and", great, small), ("and", small, great), ("but", small, great), ("or", small, great),
                     ("and", great, ("long", 0, 0)), ("and", ("long", 0, 0), great),
                     ("but", small, ("and", great, small)),
                     ("and", small, ("but", ("shy",), great)), ("but", small, ("and", ("with", (0,)), great))):
            self.refuses(TooMany, wish_table, web, wish)
            self.refuses(NoTable, wish_table, web, ("or", wish, ("shy",)))
            self.refuses(NoWay, wish_table, web, ("or", wish, ("with", (29,))))
            self.refuses(NoEnds, wish_table, web, ("or", wish, ("open", 1, 1)))
        self.tells((2, [(28, 0, 1)]), wish_table, fresh(web), small)
        self.tells((0, []), wish_table, fresh(web), ("but", small, small))
        for way in ([28], [0, 1, 7], [0]):
            self.assertIs(wished(web, great, way), way == [0, 1, 7])

    def test_too_many_of_itself_alone(self):
        refused = 0
        for seed in range(4, 9):
            web = ringed_web(seed, 23 + seed % 3)
            sets = [gone_sets(web, *ends) for ends in ((0, 1), (0, 8), (3, 11))]
            self.assertLessEqual(max(len(plain_table(some)[1]) for some in sets), 800)
            refused += self.told_or_refused(web, sets)
        self.assertEqual(refused, 3)

    def told_or_refused(self, web, sets):
        wish = ("or", ("or", ("open", 0, 1), ("open", 8, 0)), ("open", 3, 11))
        table = plain_table(sets[0] + sets[1] + sets[2])
        short = [roads for roads in sets[0] + sets[1] + sets[2] if len(roads) < 7]
        self.assertEqual(wish_table(web, ("and", wish, ("long", 0, 6))), plain_table(short))
        if len(table[1]) > 800:
            self.refuses(TooMany, wish_table, web, wish)
            return True
        self.assertEqual(wish_table(web, wish), table)
        return False

    def test_in_any_order_of_the_roads(self):
        web = grid(2, 4)
        wish = ("or", ("but", ("open", 0, 7), ("shy",)), ("and", ("closed",), ("over", (1, 6))))
        sets = sets_of(wish_table(web, wish))
        self.assertGreater(len(sets), 5)
        for seed in range(8):
            order = random.Random(seed).sample(range(10), 10)
            told = sets_of(wish_table(reordered(web, order), wish))
            self.assertEqual(sorted(sorted(order[number] for number in roads) for roads in told), sets)
