"""Trees, which are tuples (making, own, parts), and the paths in them."""

from threereckons.errors import NoName, NoNode
from threereckons.things import is_number, is_tuple_of, is_worth


def form_of(grammar, making):
    """The pair (sort, parts) of a making that may be anything; None where it's none."""
    try:
        return grammar.making_of(making)
    except NoName:
        return None


def is_tree(grammar, thing, *, sort=None):
    """Whether a thing is a tree of the grammar, of a sort where one is told."""
    if not is_tuple_of(thing, 3):
        return False
    making, own, parts = thing
    form = form_of(grammar, making)
    if form is None or not is_worth(own) or not is_tuple_of(parts, len(form[1])):
        return False
    if sort is not None and sort != form[0]:
        return False
    return all([is_tree(grammar, part, sort=due) for part, due in zip(parts, form[1])])


def walk_of(tree):
    """The list of (path, node), a node ahead of its parts, these in order."""
    steps = []
    waiting = [((), tree)]
    while waiting:
        path, node = waiting.pop()
        steps.append((path, node))
        parts = node[2]
        for at in reversed(range(len(parts))):
            waiting.append((path + (at + 1,), parts[at]))
    return steps


def nodes_of(tree):
    """The list of all paths, a node ahead of its parts, these in order."""
    return [path for path, node in walk_of(tree)]


def way_to(tree, path):
    """The list of nodes from the tree itself to the one at a path, which may be anything."""
    if not isinstance(path, tuple):
        raise NoNode(path)
    nodes = [tree]
    for place in path:
        parts = nodes[-1][2]
        if not is_number(place) or not 1 <= place <= len(parts):
            raise NoNode(path)
        nodes.append(parts[place - 1])
    return nodes


def part_at(tree, path):
    """The tree at a path."""
    return way_to(tree, path)[-1]


def put_at(tree, path, part):
    """The tree with a part in the place of the one at a path."""
    nodes = way_to(tree, path)
    whole = part
    for at in reversed(range(len(path))):
        making, own, parts = nodes[at]
        place = path[at]
        whole = (making, own, parts[:place - 1] + (whole,) + parts[place:])
    return whole


def sort_of(grammar, tree):
    """The sort of a tree of the grammar."""
    return grammar.making_of(tree[0])[0]
