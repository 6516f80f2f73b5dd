"""A desk: a web and wishes by names, to which rows are said and which answers by texts."""

from onceways.errors import NoName, NoNumber, NoWeb
from onceways.numbers import how_many, number_of_set, set_by_number
from onceways.prices import least_price
from onceways.rows import row_of
from onceways.tables import has_set
from onceways.tallies import lengths_of
from onceways.texts import MOST_PLACES, read_web, read_wish, show_web, show_wish
from onceways.ways import any_way_of
from onceways.webs import grid, web_of
from onceways.wishes import wish_table
from onceways.words import words_below


def with_blanks(numbers):
    return " ".join([str(number) for number in numbers])


def or_none(text):
    return text if text else "none"


def kept_by(desk, name):
    if name not in desk.wishes:
        raise NoName("the name stands for nothing")
    return desk.wishes[name]


def table_by(desk, name):
    return kept_by(desk, name)[1]


# Wishes speak of the roads and places of a web, so another one begins without any.
def begin_with(desk, web):
    desk.own_web = web
    desk.wishes = {}
    return "ok"


def take_web(desk, things):
    return begin_with(desk, read_web(things[0]))


def take_grid(desk, things):
    rows, columns = things
    if rows * columns > MOST_PLACES:
        raise NoWeb("a grid of more than sixteen places")
    return begin_with(desk, grid(rows, columns))


def take_wish(desk, things):
    name, text = things
    wish = read_wish(text)
    table = wish_table(desk.own_web, wish)
    desk.wishes[name] = (wish, table)
    return "ok"


def drop_wish(desk, things):
    kept_by(desk, things[0])
    desk.wishes.pop(things[0])
    return "ok"


def tell_count(desk, things):
    return str(how_many(table_by(desk, things[0])))


def tell_lengths(desk, things):
    return or_none(with_blanks(lengths_of(table_by(desk, things[0]))))


def tell_set(desk, things):
    return with_blanks(set_by_number(table_by(desk, things[0]), things[1]))


def tell_way(desk, things):
    roads = set_by_number(table_by(desk, things[0]), things[1])
    return with_blanks(any_way_of(desk.own_web, roads))


def tell_number(desk, things):
    return str(number_of_set(table_by(desk, things[0]), things[1:]))


def yes_or_no(truth):
    return "yes" if truth else "no"


def tell_alike(desk, things):
    return yes_or_no(table_by(desk, things[0]) == table_by(desk, things[1]))


def tell_has(desk, things):
    return yes_or_no(has_set(table_by(desk, things[0]), things[1:]))


def tell_nodes(desk, things):
    return str(len(table_by(desk, things[0])[1]))


def tell_least(desk, things):
    table = table_by(desk, things[0])
    if len(things) - 1 != len(desk.own_web[1]):
        raise NoNumber("there is one price for each road of the web")
    least = least_price(table, things[1:])
    return "none" if least is None else with_blanks([least[0]] + least[1])


# The rows of a grid; of webs that could be two, fewest rows come first.
def rows_of_grid(web):
    for rows in range(1, web[0] + 1):
        if grid(rows, web[0] // rows) == web:
            return rows
    raise NoWeb("the web is no grid")


def tell_words(desk, things):
    rows = rows_of_grid(desk.own_web)
    words = words_below(rows, desk.own_web[0] // rows, things[0])
    return or_none(" ".join([f"{word}:{number}" for word, number in words]))


def tell_names(desk, things):
    return or_none(" ".join(desk.names()))


def tell_web(desk, things):
    return show_web(desk.own_web)


def tell_text(desk, things):
    return show_wish(kept_by(desk, things[0])[0])


ANSWERS = {
    "web TEXT": take_web,
    "grid": take_grid,
    "wish": take_wish,
    "drop": drop_wish,
    "count": tell_count,
    "lengths": tell_lengths,
    "set": tell_set,
    "way": tell_way,
    "number": tell_number,
    "alike": tell_alike,
    "has": tell_has,
    "nodes": tell_nodes,
    "least": tell_least,
    "words": tell_words,
    "names": tell_names,
    "web": tell_web,
    "text": tell_text,
}


# By each name a tuple of the wish and its table.
class Desk:
    def __init__(self):
        self.own_web = web_of(1, [])
        self.wishes = {}

    def say(self, row):
        word, things = row_of(row)
        return ANSWERS[word](self, things)

    def web_now(self):
        return (self.own_web[0], list(self.own_web[1]))

    def names(self):
        return sorted(self.wishes)
