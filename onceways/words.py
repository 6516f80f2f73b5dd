"""Grids by words: below each row a word tells which roads lead down there, and which two of them belong together."""

from onceways.errors import NoWay, NoWeb
from onceways.marks import FREE, decided, first_marks, is_done, steps_of
from onceways.walls import numbers_behind
from onceways.ways import closed_of
from onceways.webs import grid


def roads_of_row(columns):
    return 2 * columns - 1


def sign_of(mark, place):
    if mark == FREE:
        return "."
    return "(" if mark > place else ")"


# Behind the roads of some rows the places of the next one are loose ends or free.
def word_in(marks, row, columns):
    first = row * columns
    return "".join([sign_of(marks[place], place) for place in range(first, first + columns)])


# Where a choice goes round, no road leads down, so it is left out with the word of points alone.
def words_below(rows, columns, i):
    web = grid(rows, columns)
    if not 1 <= i < rows:
        raise NoWeb("a grid is cut below a row that has one below it")
    numbers = numbers_behind(web, {}, {}, i * roads_of_row(columns))
    told = [(word_in(marks, i, columns), numbers[marks]) for marks in numbers]
    return sorted([pair for pair in told if pair[0] != "." * columns])


def count_by_words(web, needed):
    numbers = numbers_behind(web, {}, needed, len(web[1]))
    return sum([numbers[marks] for marks in numbers if is_done(marks)])


def closed_by_words(rows, columns):
    return count_by_words(grid(rows, columns), [])


def all_places_by_words(rows, columns):
    web = grid(rows, columns)
    return count_by_words(web, list(range(web[0])))


# The last row has fewer roads than the others, so no word is told behind them.
def words_of(rows, columns, roads):
    web = grid(rows, columns)
    closed_of(web, roads)
    words = []
    marks = first_marks(web, [])[0]
    for number, step in enumerate(steps_of(web, [])):
        marks = decided(marks, step, {}, number in roads)
        row, left = divmod(number + 1, roads_of_row(columns))
        if left == 0:
            words.append(word_in(marks, row, columns))
    return words


# At each place of a closed way two roads meet: a road to the right is chosen where those that lead up or down from the
# places of its row up to its own are not even.
def is_chosen(road, words, columns):
    a, b = road
    row, column = divmod(a, columns)
    if b == a + columns:
        return words[row + 1][column] != "."
    crossing = words[row][:column + 1] + words[row + 1][:column + 1]
    return (len(crossing) - crossing.count(".")) % 2 == 1


# Roads are found by which of them lead down alone; whether they are a closed way with these words is looked at behind.
def set_by_words(rows, columns, words):
    web = grid(rows, columns)
    if [len(word) for word in words] != [columns] * (rows - 1):
        raise NoWay("there is one word below each row but the last, with a sign for each column")
    points = "." * columns
    framed = [points] + words + [points]
    roads = [number for number, road in enumerate(web[1]) if is_chosen(road, framed, columns)]
    if words_of(rows, columns, roads) != words:
        raise NoWay("no closed way has these words")
    return roads
