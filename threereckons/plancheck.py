"""Whether a thing shows orders that do for all trees of a grammar."""

from threereckons.grammar import can_be_target
from threereckons.graphs import least_by_graph, ways_by_graph
from threereckons.orders import behind_row, is_key, order_at, step_needs
from threereckons.things import is_tuple_of
from threereckons.trees import form_of


def key_is_so(grammar, key, least):
    """Whether making, graphs and order are such as a row may have."""
    making, graphs, order = key
    form = form_of(grammar, making) if is_key(making, graphs, order) else None
    if form is None or len(graphs) != len(form[1]):
        return False
    downs, ups = grammar.worths_of(form[0])
    told = all([pair in least for pair in zip(form[1], graphs)])
    return told and sorted(order) == sorted(downs + ups)


def steps_are_so(grammar, key, steps):
    """Whether a thing is steps of a row that has this making, graphs and order."""
    making, graphs, order = key
    # By its kinds first: a truth is found where a number stands.
    if not isinstance(steps, tuple) or not all([can_be_target(step) for step in steps]):
        return False
    needs = step_needs(grammar, making, graphs)
    if sorted(steps) != sorted(list(needs)) or order_at(0, steps) != order:
        return False
    at = {step: number for number, step in enumerate(steps)}
    return all([at[need] < at[step] for step in needs for need in needs[step]])


def is_row(grammar, thing, least):
    if not is_tuple_of(thing, 4) or not key_is_so(grammar, thing[:3], least):
        return False
    return steps_are_so(grammar, thing[:3], thing[3])


def all_stand(ways, order, table):
    """Whether a row of each of these ways, with this order, is in the table."""
    return all([(making, graphs, order) in table for making, graphs in ways])


def root_stands(ways, table):
    """Whether all these ways have rows with one and the same order."""
    orders = [order for making, graphs, order in table if (making, graphs) == ways[0]]
    return any([all_stand(ways, order, table) for order in orders])


def all_behind(grammar, table):
    """All (sort, graph, order) of which rows must stand behind those in the table, each once."""
    found = {}
    for making, graphs, order in table:
        for due in behind_row(grammar, making, graphs, table[(making, graphs, order)]):
            found[due] = True
    return list(found)


def shows_plans(grammar, thing):
    """Whether a thing is a list of rows by which each tree of the grammar can be gone through."""
    least = least_by_graph(grammar)
    if not isinstance(thing, list) or not all([is_row(grammar, row, least) for row in thing]):
        return False
    table = {row[:3]: row[3] for row in thing}
    if len(table) < len(thing):
        return False
    ways = ways_by_graph(grammar, least)
    if not all([root_stands(ways[pair], table) for pair in ways]):
        return False
    behind = all_behind(grammar, table)
    return all([all_stand(ways[(sort, graph)], order, table) for sort, graph, order in behind])
