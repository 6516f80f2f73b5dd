"""Rows: what may be said at a desk, as a word and the names, numbers, prices and text behind it."""

from onceways.errors import NoRow
from onceways.figures import is_number, is_price

LETTERS = "abcdefghijklmnopqrstuvwxyz"
LONGEST_NAME = 8

# What stands behind each word, and what may stand behind that any number of times, if anything may. Rows that end with
# a text are taken apart by themselves.
FORMS = {
    "web": ((), None),
    "names": ((), None),
    "grid": (("number", "number"), None),
    "words": (("number",), None),
    "drop": (("name",), None),
    "count": (("name",), None),
    "lengths": (("name",), None),
    "nodes": (("name",), None),
    "text": (("name",), None),
    "set": (("name", "number"), None),
    "way": (("name", "number"), None),
    "alike": (("name", "name"), None),
    "number": (("name",), "number"),
    "has": (("name",), "number"),
    "least": (("name",), "price"),
}


def is_name(word):
    return 0 < len(word) <= LONGEST_NAME and all([sign in LETTERS for sign in word])


def is_of_kind(word, kind):
    if kind == "name":
        return is_name(word)
    return is_price(word) if kind == "price" else kind == "number" and is_number(word)


def things_behind(row, word):
    first, more = FORMS[word]
    words = row.split(" ")[1:]
    kinds = list(first) + [more] * (len(words) - len(first))
    if len(words) < len(kinds) or not all([is_of_kind(one, kind) for one, kind in zip(words, kinds)]):
        raise NoRow("other things behind the word than its rows have")
    return [one if kind == "name" else int(one) for one, kind in zip(words, kinds)]


# A row with a text is told apart from the others that have its word by the word that is told of it.
def row_of(row):
    word, blank, rest = row.partition(" ") if isinstance(row, str) else ("", "", "")
    if word == "web" and blank:
        return ("web TEXT", [rest])
    if word == "wish":
        name, behind, text = rest.partition(" ")
        if behind and is_name(name):
            return ("wish", [name, text])
    if word not in FORMS:
        raise NoRow("no such row")
    return (word, things_behind(row, word))
