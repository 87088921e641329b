"""Spots of trees, their rules, and the spots that they need."""

from threereckons.errors import NoNode, NoSpot
from threereckons.things import is_tuple_of
from threereckons.trees import part_at, sort_of, walk_of


def names_at(grammar, node):
    """The names of a node's spots: its downs, its ups, its kept ones."""
    downs, ups = grammar.worths_of(sort_of(grammar, node))
    return [*downs, *ups, *grammar.kept_of(node[0])]


def spots_of(grammar, tree):
    """The list of all spots, node by node."""
    return [(path, name) for path, node in walk_of(tree) for name in names_at(grammar, node)]


def is_spot(grammar, tree, thing):
    """Whether a thing is a spot of the tree."""
    if not is_tuple_of(thing, 2):
        return False
    path, name = thing
    try:
        node = part_at(tree, path)
    except NoNode:
        return False
    return name in names_at(grammar, node)


def check_spot(grammar, tree, thing):
    if not is_spot(grammar, tree, thing):
        raise NoSpot(thing)


def target_for(grammar, tree, spot):
    """The path of the node of whose making a spot's rule is, and the rule's target; None where there can be none."""
    path, name = spot
    downs, ups = grammar.worths_of(sort_of(grammar, part_at(tree, path)))
    if name in ups:
        return path, ("at", 0, name)
    if name not in downs:
        return path, ("kept", name)
    # No node is ahead of the tree's own downs.
    return None if path == () else (path[:-1], ("at", path[-1], name))


def rule_at(grammar, tree, spot):
    """What rule_of tells, of what is known to be a spot."""
    aim = target_for(grammar, tree, spot)
    if aim is None:
        return None
    path, target = aim
    making = part_at(tree, path)[0]
    rule = grammar.rule_for(making, target)
    return None if rule is None else (path, (making, target, *rule))


def spot_named(path, operand):
    """The spot that an operand or a target names, of a rule of the node at a path; None where it names none."""
    if operand[0] == "kept":
        return path, operand[1]
    if operand[0] != "at":
        return None
    if operand[1] == 0:
        return path, operand[2]
    return path + (operand[1],), operand[2]


def spots_named(path, operands):
    """The spots that operands name, in order, as often as they're named."""
    named = [spot_named(path, operand) for operand in operands]
    return [spot for spot in named if spot is not None]


def rule_of(grammar, tree, spot):
    """The pair of the path of the node a spot's rule is of, and the row of rules; None where it has none."""
    check_spot(grammar, tree, spot)
    return rule_at(grammar, tree, spot)


def needs_of(grammar, tree, spot):
    """The list of the spots that a spot's rule names, in order, as often as they're named."""
    found = rule_of(grammar, tree, spot)
    if found is None:
        return []
    path, rule = found
    return spots_named(path, rule[3])
