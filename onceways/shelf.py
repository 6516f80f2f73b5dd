"""A shelf keeps the nodes of tables, each once; a table is laid down on one from what stands below to what is above."""

from onceways.errors import TooMany

MOST_NODES = 800


class Shelf:
    def __init__(self, most=None):
        self.most = most
        self.nodes = []
        self.places = {}

    # A node whose high is 0 has just the sets of its low.
    def put(self, road, low, high):
        if high == 0:
            return low
        node = (road, low, high)
        if node not in self.places:
            if self.most is not None and len(self.nodes) >= self.most:
                raise TooMany("more nodes than a table may have")
            self.places[node] = len(self.nodes) + 2
            self.nodes.append(node)
        return self.places[node]


def parts_below(start, parts):
    found = {}
    pending = [start]
    while pending:
        part = pending.pop()
        if part not in found:
            found[part] = parts(part)
            if isinstance(found[part], tuple):
                pending.extend(found[part][1:])
    return found


# parts tells of a thing its road and what is left of it without and with that road, or 0 or 1 where it has no road.
# A thing's own node is come to from the first one's, or the thing has no sets and no node: so a shelf that is too small
# is refused just where the table is too great for it.
def laid_down(start, parts, shelf):
    found = parts_below(start, parts)
    numbers = {}
    for part in found:
        if isinstance(found[part], int):
            numbers[part] = found[part]
    rising = [part for part in found if isinstance(found[part], tuple)]
    for part in sorted(rising, key=lambda part: found[part][0], reverse=True):
        road, low, high = found[part]
        numbers[part] = shelf.put(road, numbers[low], numbers[high])
    return numbers[start]


# In the order in which a table numbers its nodes.
def found_from(root, nodes):
    found = []
    seen = {0: True, 1: True}
    ahead = [root]
    while ahead:
        new = []
        for number in ahead:
            if number not in seen:
                seen[number] = True
                found.append(number)
                new.extend(nodes[number - 2][1:])
        ahead = new
    return found


def numbered(root, nodes):
    found = found_from(root, nodes)
    numbers = {0: 0, 1: 1}
    for place, number in enumerate(found):
        numbers[number] = place + 2
    told = [nodes[number - 2] for number in found]
    return (numbers[root], [(road, numbers[low], numbers[high]) for road, low, high in told])


def least_table(start, parts, most):
    shelf = Shelf(most)
    return numbered(laid_down(start, parts, shelf), shelf.nodes)
