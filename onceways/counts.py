"""Counts of ways, in all and by how many roads they have, however many there are."""

from onceways.families import narrow_table
from onceways.marks import marks_of_ends
from onceways.tallies import lengths_of, size_of
from onceways.ways import check_ends


def count(web, one, other):
    check_ends(web, one, other)
    return size_of(narrow_table(web, marks_of_ends(one, other)))


def count_closed(web):
    return size_of(narrow_table(web, {}))


def filled_up(numbers, many):
    return numbers + [0] * (many - len(numbers))


def by_length(web, one, other):
    check_ends(web, one, other)
    return filled_up(lengths_of(narrow_table(web, marks_of_ends(one, other))), web[0])


def closed_by_length(web):
    return filled_up(lengths_of(narrow_table(web, {})), web[0] + 1)
