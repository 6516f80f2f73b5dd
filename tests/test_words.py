import itertools
import random

from onceways.counts import count_closed
from onceways.errors import NoWay, NoWeb
from onceways.shy import closed_through_all
from onceways.tables import sets_of
from onceways.webs import grid
from onceways.words import all_places_by_words, closed_by_words, set_by_words, words_below, words_of
from tests.support import VERY_GREAT, Case, gone_closed

WRONG_GRIDS = [(0, 3), (3, 0), (0, 0), (-1, 3), (3, -1), (-1, -1), (-3, -3), (-VERY_GREAT, 2), (2, -VERY_GREAT)]
GRIDS = [(rows, columns) for rows in range(1, 17) for columns in range(1, 17)
         if rows * columns <= 16 or rows <= 6 and columns <= 5]


def first_roads(columns, i):
    """How many roads the first i rows have, with those that lead down from row i."""
    return i * (2 * columns - 1)


def beside_by(roads):
    found = {}
    for a, b in roads:
        found.setdefault(a, []).append(b)
        found.setdefault(b, []).append(a)
    return found


def other_loose_end(found, start):
    behind, here = None, start
    while True:
        ahead = [place for place in found[here] if place != behind]
        if not ahead:
            return here
        behind, here = here, ahead[0]


def plain_word(columns, i, roads):
    """The word of chosen roads, each a tuple of places; None where they are not such as point 38 lets."""
    found = beside_by(roads)
    below = range(i * columns, (i + 1) * columns)
    if any(len(found[place]) != 2 for place in found if place not in below):
        return None
    met, word = set(), ""
    for place in below:
        if place in found:
            other = other_loose_end(found, place)
            word += "(" if other > place else ")"
            met |= piece_of(found, place)
        else:
            word += "."
    return word if met == set(found) else None


def piece_of(found, start):
    met, pending = {start}, [start]
    while pending:
        for place in found[pending.pop()]:
            if place not in met:
                met.add(place)
                pending.append(place)
    return met


def plain_words(rows, columns, i):
    numbers = {}
    roads = grid(rows, columns)[1][:first_roads(columns, i)]
    for size in range(len(roads) + 1):
        for chosen in itertools.combinations(roads, size):
            word = plain_word(columns, i, chosen)
            if word is not None and word != "." * columns:
                numbers[word] = numbers.get(word, 0) + 1
    return sorted(numbers.items())


def words_by_rows(columns, i):
    """The words below row i with their numbers, row by row: a row's own roads and those down are put to each word."""
    numbers = {"." * columns: 1}
    for row in range(i):
        ahead = {}
        for word, downs in itertools.product(numbers, itertools.product((False, True), repeat=columns)):
            below = word_behind(word, downs)
            if below is not None:
                ahead[below] = ahead.get(below, 0) + numbers[word]
        numbers = ahead
    return numbers


def word_behind(word, downs):
    """The word below one row more; the row above is drawn as arcs between its columns."""
    columns = len(word)
    roads, opened, along = [], [], False
    for column, (sign, down) in enumerate(zip(word, downs)):
        if along and sign != "." and down:
            return None
        if sign == "(":
            opened.append(column)
        if sign == ")":
            roads.append(("arc", opened.pop(), column))
        along = along != ((sign != ".") != down)
        if along:
            roads.append(("row", column, column + 1))
        if down:
            roads.append(("down", column, column + columns))
    return None if along else plain_word(columns, 1, told_apart(roads))


def told_apart(roads):
    """As roads of a grid; an arc gets a place of its own, so that it is told apart from a road of the row."""
    told = []
    for number, (kind, a, b) in enumerate(roads):
        told += [(a, -1 - number), (-1 - number, b)] if kind == "arc" else [(a, b)]
    return told


def is_ring(roads):
    found = beside_by(roads)
    return all(len(places) == 2 for places in found.values()) and piece_of(found, roads[0][0]) == set(found)


def edges_of_fields(columns, fields):
    """The roads round some fields of a grid, each field told by its upper left place."""
    around = {}
    for place in fields:
        for road in ((place, place + 1), (place, place + columns), (place + 1, place + columns + 1),
                     (place + columns, place + columns + 1)):
            around[road] = around.get(road, 0) + 1
    return [road for road in around if around[road] == 1]


def grown_ring(source, rows, columns, most):
    """The set of a closed way round fields that are put together one by one."""
    free = [row * columns + column for row in range(rows - 1) for column in range(columns - 1)]
    fields = [source.choice(free)]
    for nothing in range(most):
        place = source.choice(free)
        if place not in fields and is_ring(edges_of_fields(columns, fields + [place])):
            fields.append(place)
    roads = grid(rows, columns)[1]
    return sorted(roads.index(road) for road in edges_of_fields(columns, fields))


def plain_words_of(rows, columns, roads):
    chosen = [grid(rows, columns)[1][number] for number in roads]
    words = []
    for i in range(1, rows):
        above = [road for road in chosen if road[0] < i * columns]
        down = any(road[1] >= i * columns for road in above)
        words.append(plain_word(columns, i, above) if down else "." * columns)
    return words


class WordsBelowTest(Case):
    def test_by_hand(self):
        self.tells([("()", 1)], words_below, 2, 2, 1)
        self.tells([("().", 1), ("(.)", 1), (".()", 1)], words_below, 2, 3, 1)
        self.tells([("().", 3), ("(.)", 4), (".()", 3)], words_below, 3, 3, 2)
        self.tells([("()()", 1), ("()..", 1), ("(.).", 1), ("(..)", 1), (".().", 1), (".(.)", 1), ("..()", 1)],
                   words_below, 3, 4, 1)

    def test_small_grids_by_trial(self):
        for rows in range(2, 6):
            for columns in range(1, 8):
                for i in range(1, rows):
                    if first_roads(columns, i) <= 14:
                        self.tells(plain_words(rows, columns, i), words_below, rows, columns, i)

    def test_all_grids(self):
        for rows, columns in GRIDS:
            for i in range(1, rows):
                numbers = words_by_rows(columns, i)
                numbers.pop("." * columns)
                self.tells(sorted(numbers.items()), words_below, rows, columns, i)

    def test_the_word_of_points_alone_is_left_out(self):
        for rows, columns in GRIDS:
            for i in range(1, rows):
                words = [word for word, number in words_below(rows, columns, i)]
                self.assertNotIn("." * columns, words)
                self.assertEqual(words, sorted(set(words)))

    def test_one_row_and_one_column(self):
        for rows in range(2, 17):
            for i in range(1, rows):
                self.tells([], words_below, rows, 1, i)
        for columns in range(1, 17):
            for i in (-1, 0, 1, 2):
                self.refuses(NoWeb, words_below, 1, columns, i)

    def test_no_row_below(self):
        for rows, columns in ((2, 2), (3, 4), (6, 5), (5, 1)):
            for i in (0, -1, rows, rows + 1, VERY_GREAT, -VERY_GREAT):
                self.refuses(NoWeb, words_below, rows, columns, i)

    def test_no_grid(self):
        for rows, columns in WRONG_GRIDS:
            for i in (-1, 0, 1, 2):
                self.refuses(NoWeb, words_below, rows, columns, i)


class CountsTest(Case):
    def test_small_grids_by_trial(self):
        for rows, columns in GRIDS:
            if rows * columns <= 16:
                web = grid(rows, columns)
                sets = gone_closed(web)
                self.tells(len(sets), closed_by_words, rows, columns)
                through = sum(len(roads) == web[0] for roads in sets)
                self.tells(through, all_places_by_words, rows, columns)

    def test_by_hand(self):
        for rows, columns, many, through in ((2, 2, 1, 1), (2, 3, 3, 1), (3, 3, 13, 0), (4, 4, 213, 6), (2, 8, 28, 1),
                                             (5, 5, 9349, 0), (6, 4, 5034, 37), (6, 5, 80626, 154)):
            self.tells(many, closed_by_words, rows, columns)
            self.tells(through, all_places_by_words, rows, columns)

    def test_greater_grids(self):
        for rows, columns in GRIDS:
            if rows * columns > 16:
                self.assertEqual(closed_by_words(rows, columns), count_closed(grid(rows, columns)))
                if columns < 5 and rows < 6:
                    self.assertEqual(closed_by_words(rows, columns), closed_by_words(columns, rows))
                    self.assertEqual(all_places_by_words(rows, columns), all_places_by_words(columns, rows))

    def test_through_all_as_by_tables(self):
        for rows, columns in GRIDS:
            if rows * columns <= 20:
                table = closed_through_all(grid(rows, columns))
                self.assertEqual(all_places_by_words(rows, columns), len(sets_of(table)))

    def test_one_row_and_one_column(self):
        for many in range(1, 17):
            for asked in (closed_by_words, all_places_by_words):
                self.tells(0, asked, 1, many)
                self.tells(0, asked, many, 1)

    def test_no_grid(self):
        for rows, columns in WRONG_GRIDS:
            self.refuses(NoWeb, closed_by_words, rows, columns)
            self.refuses(NoWeb, all_places_by_words, rows, columns)


class WordsOfTest(Case):
    def test_by_hand(self):
        self.tells(["()"], words_of, 2, 2, [0, 1, 2, 3])
        self.tells(["(.)", "..."], words_of, 3, 3, [0, 1, 2, 4, 5, 7])
        self.tells(["...", ".()"], words_of, 3, 3, [7, 8, 9, 11])
        self.tells([0, 1, 2, 4, 5, 7], set_by_words, 3, 3, ["(.)", "..."])
        self.tells([7, 8, 9, 11], set_by_words, 3, 3, ["...", ".()"])

    def test_there_and_back(self):
        for rows, columns in GRIDS:
            if rows * columns <= 16 or (rows, columns) == (6, 3):
                told = {}
                for roads in gone_closed(grid(rows, columns)):
                    words = plain_words_of(rows, columns, roads)
                    self.tells(list(words), words_of, rows, columns, list(roads))
                    self.tells(list(roads), set_by_words, rows, columns, list(words))
                    self.assertNotIn(tuple(words), told)
                    told[tuple(words)] = roads

    def test_greater_grids(self):
        source = random.Random(151)
        for rows, columns in ((10, 7), (10, 6), (7, 7), (9, 5), (10, 2), (2, 7)):
            for most in (0, 3, 20, 60, 400):
                roads = grown_ring(source, rows, columns, most)
                words = plain_words_of(rows, columns, roads)
                self.tells(list(words), words_of, rows, columns, list(roads))
                self.tells(list(roads), set_by_words, rows, columns, list(words))

    def test_through_all_places_of_a_great_grid(self):
        comb = [row * 7 for row in range(9)] + [row * 7 + column for row in range(0, 10, 2) for column in range(1, 6)
                                                if row < 9]
        roads = grid(10, 7)[1]
        fields = sorted(set(comb))
        chosen = sorted(roads.index(road) for road in edges_of_fields(7, fields))
        self.assertEqual(len(chosen), 70)
        words = words_of(10, 7, chosen)
        self.assertEqual(words, plain_words_of(10, 7, chosen))
        self.assertEqual(set_by_words(10, 7, words), chosen)

    def test_the_lowest_rows_left_alone(self):
        for rows in range(2, 11):
            words = ["(.....)"] + ["......."] * (rows - 2)
            roads = set_by_words(rows, 7, words)
            self.assertEqual(len(roads), 14)
            self.tells(list(words), words_of, rows, 7, list(roads))
            low = ["......."] * (rows - 2) + ["..(..)."]
            self.tells(list(low), words_of, rows, 7, set_by_words(rows, 7, low))

    def test_lists_that_are_no_closed_way(self):
        square = [0, 1, 2, 3]
        for roads in ([], [0], [0, 1, 2], [3, 2, 1, 0], [0, 1, 3, 2], [0, 0, 1, 2, 3], [0, 1, 2, 3, 3], [0, 1, 2, 3, 4],
                      [-1, 0, 1, 2, 3], [0, 1, 2, -1], [4], [-1], [VERY_GREAT], [0, 1, 2, VERY_GREAT]):
            self.refuses(NoWay, words_of, 2, 2, roads)
        self.tells(["()"], words_of, 2, 2, square)
        rings = [tuple(roads) for roads in gone_closed(grid(3, 3))]
        for size in range(13):
            for roads in itertools.combinations(range(12), size):
                if roads not in rings:
                    self.refuses(NoWay, words_of, 3, 3, list(roads))
        two = [0, 1, 2, 9] + [4, 5, 6, 13]
        self.refuses(NoWay, words_of, 2, 5, sorted(two))
        for rows, columns in ((1, 1), (1, 6), (6, 1)):
            for roads in ([], [0], [0, 1, 2, 3], list(range(5))):
                self.refuses(NoWay, words_of, rows, columns, roads)

    def test_no_grid_goes_first(self):
        for rows, columns in WRONG_GRIDS:
            for roads in ([], [0], [0, 1, 2, 3], [-1], [3, 2, 1]):
                self.refuses(NoWeb, words_of, rows, columns, roads)


class SetByWordsTest(Case):
    def test_all_lists_of_words(self):
        for rows, columns in ((2, 1), (2, 2), (2, 3), (3, 2), (2, 4), (3, 3), (4, 2), (1, 3)):
            told = {tuple(plain_words_of(rows, columns, roads)): roads for roads in gone_closed(grid(rows, columns))}
            words = ["".join(signs) for signs in itertools.product(".()", repeat=columns)]
            for some in itertools.product(words, repeat=rows - 1):
                if some in told:
                    self.assertEqual(set_by_words(rows, columns, list(some)), told[some])
                else:
                    self.refuses(NoWay, set_by_words, rows, columns, list(some))

    def test_too_few_and_too_many(self):
        for words in ([], ["(.)"], ["(.)", "...", "..."], ["...", "(.)", "..."], ["(.)"] * 3, ["(.)", "(.)", ""],
                      ["..."] * 40):
            self.refuses(NoWay, set_by_words, 3, 3, words)
        for words in ([], [""], ["."], ["..."], ["()"], ["(.)"]):
            self.refuses(NoWay, set_by_words, 1, 3, words)
            self.refuses(NoWay, set_by_words, 1, 1, words)
        self.refuses(NoWay, set_by_words, 2, 2, ["()", ""])

    def test_of_another_length(self):
        for words in (["(.)", ".."], ["()", "..."], ["(.)", "...."], ["(.).", "..."], ["(.)", ""], ["", "(.)"],
                      ["", ""], ["(.)" * 1300, "..."], ["()", "()"], ["(..)", "...."], ["(.)...", ""], ["(.", ")..."]):
            self.refuses(NoWay, set_by_words, 3, 3, words)
        self.refuses(NoWay, set_by_words, 2, 2, [""])

    def test_brackets_that_are_not_matched(self):
        for words in (["(.("], [").("], [").)"], ["(.."], ["..)"], ["((("], ["(()"], ["())"], [")()"]):
            self.refuses(NoWay, set_by_words, 2, 3, words)
        for words in (["((..", "(..)"], ["(())", "...."], ["()()", "()()"], ["(())", "(())"], ["(())", "(..)"]):
            self.refuses(NoWay, set_by_words, 3, 4, words)

    def test_other_signs(self):
        for words in (["[]"], ["xx"], ["( "], [" )"], ["()\n"], ["(\n"], ["01"], ["(,"], ["<>"], ["{}"], ["(~"]):
            self.refuses(NoWay, set_by_words, 2, 2, words)
        for words in (["(.)", "xxx"], ["(x)", "..."], ["(.)", "..\t"], ["( )", "..."], ["(.)", "   "]):
            self.refuses(NoWay, set_by_words, 3, 3, words)

    def test_points_alone(self):
        for rows, columns in ((2, 2), (3, 3), (10, 7), (4, 1), (2, 8)):
            self.refuses(NoWay, set_by_words, rows, columns, ["." * columns] * (rows - 1))

    def test_two_rings(self):
        self.refuses(NoWay, set_by_words, 2, 5, ["().()"])
        self.refuses(NoWay, set_by_words, 5, 2, ["()", "..", "..", "()"])
        self.refuses(NoWay, set_by_words, 4, 3, ["()", "..", "()"])

    def test_no_grid_goes_first(self):
        for rows, columns in WRONG_GRIDS:
            for words in ([], ["()"], ["..."], [""], ["x"]):
                self.refuses(NoWeb, set_by_words, rows, columns, words)
