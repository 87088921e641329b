"""Orders of a row's steps, and of a sort's worths: what they are made of, and how."""

from threereckons.graphs import least_by_graph, local_needs, ways_by_graph


def taken_by_least(things, needs):
    """The tuple of things, each behind those that it needs, made by taking the least that may come next."""
    taken = {}
    left = sorted(things)
    while left:
        fitting = [thing for thing in left if all([need in taken for need in needs[thing]])]
        taken[fitting[0]] = True
        left.remove(fitting[0])
    return tuple(taken)


def root_order(grammar, sort, graph):
    """The order in which the worths of a tree come, of a sort and a graph, that no row asks for."""
    downs, ups = grammar.worths_of(sort)
    needs = {down: [] for down in downs}
    for up in ups:
        needs[up] = [down for down, other in graph if other == up]
    return taken_by_least(downs + ups, needs)


def steps_at(grammar, making):
    """All that the steps of a making have, in no order that matters."""
    sort, parts = grammar.making_of(making)
    found = [("kept", name) for name in grammar.kept_of(making)]
    for place, part in enumerate((sort, *parts)):
        downs, ups = grammar.worths_of(part)
        found.extend([("at", place, name) for name in downs + ups])
    return found


def step_needs(grammar, making, graphs):
    """By each step of a making those that come ahead of it, by its rule or by the graph of its part."""
    found = steps_at(grammar, making)
    needs = local_needs(grammar, making, graphs)
    return {step: [need for need in needs.get(step, []) if need in found] for step in found}


def steps_by_least(grammar, making, graphs, order):
    """The steps of a row."""
    needs = step_needs(grammar, making, graphs)
    for ahead, name in zip(order, order[1:]):
        needs[("at", 0, name)].append(("at", 0, ahead))
    return taken_by_least(list(needs), needs)


def order_at(place, steps):
    """The order, of NAMEs, in which steps bear the worths of a place."""
    return tuple([step[2] for step in steps if step[:2] == ("at", place)])


def behind_row(grammar, making, graphs, steps):
    """Of each part of a row (sort, graph, order): rows of all makings that come to these stand behind it."""
    sort, parts = grammar.making_of(making)
    return [(part, graphs[at], order_at(at + 1, steps)) for at, part in enumerate(parts)]


def rows_by_key(grammar):
    """By (making, graphs, order) of all rows their steps."""
    least = least_by_graph(grammar)
    ways = ways_by_graph(grammar, least)
    rows = {}
    waiting = [(sort, graph, root_order(grammar, sort, graph)) for sort, graph in least]
    met = {}
    while waiting:
        due = waiting.pop()
        if due in met:
            continue
        met[due] = True
        sort, graph, order = due
        for making, graphs in ways[(sort, graph)]:
            steps = steps_by_least(grammar, making, graphs, order)
            rows[(making, graphs, order)] = steps
            waiting.extend(behind_row(grammar, making, graphs, steps))
    return rows


def are_texts(thing):
    return isinstance(thing, tuple) and all([isinstance(part, str) for part in thing])


def is_graph(thing):
    """Whether a thing is made as graphs are, whatever it names."""
    return isinstance(thing, tuple) and all([are_texts(pair) for pair in thing])


def is_key(making, graphs, order):
    """Whether these, which may be anything, are made as what a row is found by."""
    # A list can't be looked for in a dict.
    if not isinstance(making, str) or not isinstance(graphs, tuple) or not are_texts(order):
        return False
    return all([is_graph(graph) for graph in graphs])
