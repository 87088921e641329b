"""Going through a tree by the steps of rows."""

from threereckons.graphs import graph_by
from threereckons.orders import order_at, root_order
from threereckons.trees import sort_of, walk_of


def graphs_below(path, node, graphs):
    return tuple([graphs[path + (at + 1,)] for at in range(len(node[2]))])


def graphs_within(grammar, walk):
    """By the path of each node its graph."""
    graphs = {}
    # A node's parts come behind it, so from the last node on they're known.
    for path, node in reversed(walk):
        graphs[path] = graph_by(grammar, node[0], graphs_below(path, node, graphs))
    return graphs


def steps_within(grammar, walk, rows):
    """By the path of each node the steps of its row."""
    graphs = graphs_within(grammar, walk)
    sort = sort_of(grammar, walk[0][1])
    orders = {(): root_order(grammar, sort, graphs[()])}
    found = {}
    for path, node in walk:
        found[path] = rows[(node[0], graphs_below(path, node, graphs), orders[path])]
        for at in range(len(node[2])):
            orders[path + (at + 1,)] = order_at(at + 1, found[path])
    return found


class Going:
    """How far one came with the steps of each node of a tree, and the spots in the order in which they came."""

    def __init__(self, grammar, tree, rows):
        walk = walk_of(tree)
        steps = steps_within(grammar, walk, rows)
        self.left = {path: list(steps[path]) for path in steps}
        self.ups = {path: grammar.worths_of(sort_of(grammar, node))[1] for path, node in walk}
        self.met = []
        # Of a node without ups, and behind the last of them, nobody asks for what is left.
        for path, node in walk:
            self.go_to(path, None)

    def go_to(self, path, last):
        """Takes the steps of a node that are left, to the last one told, or all of them."""
        left = self.left[path]
        while left:
            step = left.pop(0)
            self.take(path, step)
            if step == last:
                return

    def take(self, path, step):
        if step[0] == "kept":
            self.met.append((path, step[1]))
        elif step[1] == 0:
            self.take_own(path, step[2])
        else:
            self.take_below(path + (step[1],), step[2])

    def take_own(self, path, name):
        # The steps of the node ahead have taken the downs.
        if path == () or name in self.ups[path]:
            self.met.append((path, name))

    def take_below(self, path, name):
        if name in self.ups[path]:
            self.go_to(path, ("at", 0, name))
        else:
            self.met.append((path, name))
