"""Papers: whether a list of numbers shows that no set of a table has a lesser price. It is looked through node by node,
and nothing of how it was found is believed.
"""


def is_right(shown, number, node, prices):
    road, low, high = node
    if low != 0 and shown[number] > shown[low]:
        return False
    return shown[number] <= prices[road] + shown[high]


def paper_shows(table, prices, paper, price):
    root, nodes = table
    if root == 0 or len(paper) != len(nodes):
        return False
    shown = [0, 0] + paper
    if not all([is_right(shown, number, node, prices) for number, node in enumerate(nodes, start=2)]):
        return False
    return shown[root] == price
