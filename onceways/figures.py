"""Numbers as they are written: figures, the first no 0 of several. Each has one writing."""

FIGURES = "0123456789"
MOST_FIGURES = 4
MOST_OF_A_PRICE = 30


def is_written(word, most):
    if not 0 < len(word) <= most or not all([sign in FIGURES for sign in word]):
        return False
    return word == "0" or not word.startswith("0")


def is_number(word):
    return is_written(word, MOST_FIGURES)


def is_price(word):
    return is_written(word[1:] if word.startswith("-") else word, MOST_OF_A_PRICE) and word != "-0"
