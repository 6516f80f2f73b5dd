"""The parts of wishes: leaves, and what joins two wishes to one. They are gone through without recursion, so that what
lies deeper than a wish is let by here; only is_wish, and so what reads a text, holds a thing to its depth.
"""

JOINING = ("and", "or", "but")


# Each part ahead of those within it, so that going back along the list, each comes behind them, x ahead of y.
def parts_of(wish):
    found = []
    pending = [wish]
    while pending:
        part = pending.pop()
        found.append(part)
        if part[0] in JOINING:
            pending.extend(part[1:])
    return found


def leaves_of(wish):
    return [part for part in parts_of(wish) if part[0] not in JOINING]


# What joined tells of the word that joins two wishes and of what is told of these two; of a leaf, what told_of tells.
def folded(wish, told_of, joined):
    told = []
    for part in reversed(parts_of(wish)):
        if part[0] in JOINING:
            second = told.pop()
            first = told.pop()
            told.append(joined(part[0], first, second))
        else:
            told.append(told_of(part))
    return told[0]
