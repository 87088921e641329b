"""Rings told ahead: the least tree of a grammar that has one."""

from threereckons.errors import Ring
from threereckons.graphs import choices_of, least_by_graph, local_needs, reached_from, tree_by
from threereckons.needs import is_spot
from threereckons.things import is_tuple_of
from threereckons.trees import is_tree
from threereckons.webs import Web


def closes_ring(grammar, making, way):
    """Whether a ring goes through a node of the making, its parts having these graphs."""
    needs = local_needs(grammar, making, tuple([taken[1] for taken in way]))
    return any([target in reached_from(target, needs) for target in needs])


def least_ringed(grammar):
    """The least tree that has a ring; None where there's none."""
    least = least_by_graph(grammar)
    best = None
    for making, sort, parts in grammar.makings():
        for way in choices_of(parts, least):
            # A ring that doesn't go through the top of a tree is one of a lesser tree.
            found = tree_by(making, way, least)
            if (best is None or found < best) and closes_ring(grammar, making, way):
                best = found
    return None if best is None else best[1]


def ring_in(grammar, tree):
    """The first ring of a tree that is found by needs; None where there's none."""
    try:
        Web(grammar, tree, ()).fill_all()
    except Ring as met:
        return met.ring
    return None


def ring_ahead(grammar):
    """The pair of the least tree that has a ring, and one of its rings; None where no tree has one."""
    tree = least_ringed(grammar)
    return None if tree is None else (tree, ring_in(grammar, tree))


def is_ring(grammar, tree, thing):
    """Whether a thing is a ring of a tree."""
    if not isinstance(thing, list) or thing == []:
        return False
    if not all([is_spot(grammar, tree, spot) for spot in thing]) or len(set(thing)) < len(thing):
        return False
    web = Web(grammar, tree, ())
    return all([after in web.needs(spot) for spot, after in zip(thing, thing[1:] + thing[:1])])


def shows_ring(grammar, thing):
    """Whether a thing is a pair of a tree of the grammar and a ring of it."""
    return is_tuple_of(thing, 2) and is_tree(grammar, thing[0]) and is_ring(grammar, thing[0], thing[1])
