import importlib
import inspect
import unittest

from onceways.desk import Desk

INTERFACE = {
    "onceways.webs": {
        "web_of": "(places, roads)",
        "grid": "(rows, columns)",
        "roads_at": "(web, place)",
        "beside": "(web, place)",
        "reordered": "(web, order)",
    },
    "onceways.ways": {
        "is_way": "(web, one, other, places)",
        "is_closed": "(web, places)",
        "roads_of": "(web, places, closed=False)",
        "way_of": "(web, one, other, roads)",
        "closed_of": "(web, roads)",
        "every_way": "(web, one, other)",
        "every_closed": "(web)",
    },
    "onceways.walls": {
        "front": "(web, i)",
        "hopeful": "(web, one, other, i, roads)",
        "wall_of": "(web, one, other, i, roads)",
        "walls": "(web, one, other, i)",
    },
    "onceways.counts": {
        "count": "(web, one, other)",
        "count_closed": "(web)",
        "by_length": "(web, one, other)",
        "closed_by_length": "(web)",
    },
    "onceways.tables": {
        "table_of": "(sets)",
        "is_least": "(web, table)",
        "sets_of": "(table)",
        "has_set": "(table, roads)",
        "ways_table": "(web, one, other)",
        "closed_table": "(web)",
    },
    "onceways.orders": {
        "put_into": "(order, roads)",
        "least_order": "(web, one, other, orders)",
    },
    "onceways.cuts": {
        "cut": "(web, one, other)",
        "is_cut": "(web, one, other, places)",
    },
    "onceways.joined": {
        "both_of": "(one, other)",
        "either_of": "(one, other)",
        "first_without": "(one, other)",
        "through_roads": "(table, roads, off)",
        "touching_all": "(table, lists)",
        "of_lengths": "(table, low, high)",
    },
    "onceways.numbers": {
        "how_many": "(table)",
        "how_many_with": "(table, road)",
        "set_by_number": "(table, number)",
        "number_of_set": "(table, roads)",
        "beginning_with": "(table, roads)",
    },
    "onceways.prices": {
        "least_price": "(table, prices)",
        "price_paper": "(table, prices)",
        "cheapest_sets": "(table, prices, k)",
    },
    "onceways.papers": {
        "paper_shows": "(table, prices, paper, price)",
    },
    "onceways.shy": {
        "shy_table": "(web, s, t)",
        "shy_closed": "(web)",
        "through_all": "(web, s, t)",
        "closed_through_all": "(web)",
        "over_places": "(web, s, t, places)",
    },
    "onceways.words": {
        "words_below": "(rows, columns, i)",
        "words_of": "(rows, columns, roads)",
        "set_by_words": "(rows, columns, words)",
        "closed_by_words": "(rows, columns)",
        "all_places_by_words": "(rows, columns)",
    },
    "onceways.wishes": {
        "is_wish": "(thing)",
        "wished": "(web, wish, roads)",
        "wish_table": "(web, wish)",
    },
    "onceways.texts": {
        "show_wish": "(wish)",
        "show_web": "(web)",
        "read_wish": "(text)",
        "read_web": "(text)",
    },
    "onceways.desk": {
        "Desk": "()",
    },
}


class InterfaceTest(unittest.TestCase):
    def test_names_arguments_and_defaults(self):
        for module, functions in INTERFACE.items():
            for name, arguments in functions.items():
                function = getattr(importlib.import_module(module), name)
                self.assertEqual(str(inspect.signature(function)), arguments, name)

    def test_methods_of_a_desk(self):
        for name, arguments in (("say", "(self, row)"), ("web_now", "(self)"), ("names", "(self)")):
            self.assertEqual(str(inspect.signature(getattr(Desk, name))), arguments, name)
