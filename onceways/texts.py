"""Texts: wishes and webs as they are written and read back. Each has one writing."""

from onceways.errors import NoText, NoWeb
from onceways.figures import is_number
from onceways.parts import JOINING, folded
from onceways.webs import web_of
from onceways.wishes import BARE, OF_PLACES, OF_ROADS, PAIRED, is_wish

MOST_PLACES = 16
MOST_ROADS = 30


def numbers_of(leaf):
    return leaf[1] if leaf[0] in OF_ROADS + OF_PLACES else leaf[1:]


def show_leaf(leaf):
    return " ".join([leaf[0]] + [str(number) for number in numbers_of(leaf)])


def show_wish(wish):
    return folded(wish, show_leaf, lambda word, first, second: f"({first} {word} {second})")


# The brackets, the words that join, and of each leaf a tuple of its word and numbers; None where something else stands.
# How many blanks are between them is not looked at here.
def items_of(text):
    items = []
    for word in text.replace("(", " ( ").replace(")", " ) ").split(" "):
        if is_number(word):
            if not items or not isinstance(items[-1], tuple):
                return None
            items[-1] = items[-1] + (int(word),)
        elif word in BARE + PAIRED + OF_ROADS + OF_PLACES:
            items.append((word,))
        elif word in JOINING + ("(", ")"):
            items.append(word)
        elif word != "":
            return None
    return items


def leaf_of(item):
    return (item[0], item[1:]) if item[0] in OF_ROADS + OF_PLACES else item


# A closing bracket makes one wish of what stands behind the last opened one. What is left is one wish, or none is
# written.
def wish_of(items):
    stack = []
    for item in items:
        if isinstance(item, tuple):
            stack.append(leaf_of(item))
        elif item != ")":
            stack.append(item)
        else:
            within = stack[-4:]
            if len(within) < 4 or within[0] != "(":
                return None
            stack = stack[:-4] + [(within[2], within[1], within[3])]
    return stack[0] if len(stack) == 1 else None


# What was read is a wish's text where it is the one writing of that wish.
def read_wish(text):
    items = items_of(text) if isinstance(text, str) else None
    wish = wish_of(items) if items else None
    if not is_wish(wish) or show_wish(wish) != text:
        raise NoText("the text writes no wish")
    return wish


def show_web(web):
    return " ".join([str(web[0])] + [f"{a}-{b}" for a, b in web[1]])


def road_of(word):
    a, dash, b = word.partition("-")
    if not is_number(a) or not is_number(b):
        raise NoText("the text writes no road")
    return (int(a), int(b))


def read_web(text):
    words = text.split(" ") if isinstance(text, str) else [""]
    if not is_number(words[0]) or int(words[0]) > MOST_PLACES or len(words) - 1 > MOST_ROADS:
        raise NoText("the text writes no web of so many places and roads")
    try:
        return web_of(int(words[0]), [road_of(word) for word in words[1:]])
    except NoWeb:
        raise NoText("the text writes no web") from None
