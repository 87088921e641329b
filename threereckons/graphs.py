"""Graphs: which ups of a tree come to need which of its downs."""


def local_needs(grammar, making, graphs):
    """By each worth within a making those that it needs, through its parts by their graphs."""
    needs = {}
    for whose, target, op, operands in grammar.rules():
        if whose == making:
            needs[target] = list(operands)
    for at, graph in enumerate(graphs):
        for down, up in graph:
            # No rule of the making has an up of a part as its target.
            needs.setdefault(("at", at + 1, up), []).append(("at", at + 1, down))
    return needs


def reached_from(start, needs):
    """By each one to which one comes from the start by needs, True."""
    reached = {}
    waiting = [start]
    while waiting:
        ahead = waiting.pop()
        for need in needs.get(ahead, []):
            if need not in reached:
                reached[need] = True
                waiting.append(need)
    return reached


def graph_by(grammar, making, graphs):
    """The graph of a tree of the making whose parts have these graphs."""
    sort, parts = grammar.making_of(making)
    downs, ups = grammar.worths_of(sort)
    needs = local_needs(grammar, making, graphs)
    pairs = []
    for up in ups:
        reached = reached_from(("at", 0, up), needs)
        pairs.extend([(down, up) for down in downs if ("at", 0, down) in reached])
    return tuple(sorted(pairs))


def graph_of(grammar, tree):
    """The rising tuple of pairs (down, up) where the up comes to need the down."""
    making, own, parts = tree
    return graph_by(grammar, making, tuple([graph_of(grammar, part) for part in parts]))


def choices_of(parts, least):
    """All ways to take for each part a pair (sort, graph) of its sort, of those in least."""
    ways = [()]
    for part in parts:
        ways = [way + (pair,) for way in ways for pair in least if pair[0] == part]
    return ways


def tree_by(making, way, least):
    """The tree of a making whose parts are the least of these, behind how many nodes it has."""
    many = 1 + sum([least[pair][0] for pair in way])
    return many, (making, 0, tuple([least[pair][1] for pair in way]))


def ways_with(grammar, last, least):
    """The list of (making, way), all ways of all makings that take the pair put into least as the last."""
    return [(making, way) for making, sort, parts in grammar.makings()
            for way in choices_of(parts, least) if last in way]


def put_waiting(grammar, ways, waiting, least):
    """Puts the least trees made in these ways into those waiting, where none is in least."""
    for making, way in ways:
        graph = graph_by(grammar, making, tuple([taken[1] for taken in way]))
        pair = (grammar.making_of(making)[0], graph)
        found = tree_by(making, way, least)
        if pair not in least:
            waiting[pair] = min(found, waiting.get(pair, found))


def least_by_graph(grammar):
    """By each pair (sort, graph) that trees have, how many nodes the least such tree has, and the tree."""
    least = {}
    waiting = {}
    put_waiting(grammar, [(making, ()) for making, sort, parts in grammar.makings() if parts == ()], waiting, least)
    while waiting:
        # No tree that comes later is less: it has more nodes than its parts.
        many, tree, pair = min([(*waiting[each], each) for each in waiting])
        least[pair] = waiting.pop(pair)
        put_waiting(grammar, ways_with(grammar, pair, least), waiting, least)
    return least


def graphs_of(grammar, sort):
    """The rising list of (graph, tree) of all graphs that trees of a sort have, each with its least tree."""
    # This refuses what is no sort.
    grammar.worths_of(sort)
    least = least_by_graph(grammar)
    return sorted([(graph, least[(whose, graph)][1]) for whose, graph in least if whose == sort])


def ways_by_graph(grammar, least):
    """By each pair (sort, graph) that trees have, all (making, graphs of its parts) that come to it."""
    ways = {pair: [] for pair in least}
    for making, sort, parts in grammar.makings():
        for way in choices_of(parts, least):
            graphs = tuple([taken[1] for taken in way])
            ways[(sort, graph_by(grammar, making, graphs))].append((making, graphs))
    return ways
