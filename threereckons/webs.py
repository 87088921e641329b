"""What the spots of a tree are reckoned of, and going through them by needs."""

from threereckons.errors import NoGiven, NoTree, Ring
from threereckons.needs import spot_named, spots_named, spots_of
from threereckons.ops import reckoned
from threereckons.things import is_tuple_of, is_worth
from threereckons.trees import is_tree, sort_of, walk_of


def is_given(grammar, tree, thing):
    """Whether a thing can be given to a tree of the grammar."""
    if not isinstance(thing, list):
        return thing == ()
    downs, ups = grammar.worths_of(sort_of(grammar, tree))
    for pair in thing:
        if not is_tuple_of(pair, 2) or pair[0] not in downs or not is_worth(pair[1]):
            return False
    return len(set([pair[0] for pair in thing])) == len(thing)


def recipes_of(grammar, tree):
    """By each spot, in order, (path, op, operands): its rule, and the node it's of; None where it has none."""
    recipes = {spot: None for spot in spots_of(grammar, tree)}
    rules = grammar.rules()
    for path, node in walk_of(tree):
        for making, target, op, operands in rules:
            if making == node[0]:
                recipes[spot_named(path, target)] = (path, op, operands)
    return recipes


class Web:
    """A tree's spots in order, with what each is reckoned of, and what is given.

    What was found of them is held in dicts by spots: numbers, None of what
    lacks. Nothing in a web changes.
    """

    def __init__(self, grammar, tree, given):
        if not is_tree(grammar, tree):
            raise NoTree(tree)
        if not is_given(grammar, tree, given):
            raise NoGiven(given)
        self.top = grammar.cap()
        self.recipes = recipes_of(grammar, tree)
        self.owns = {path: node[1] for path, node in walk_of(tree)}
        self.handed = {((), down): self.under_top(number) for down, number in given}

    def under_top(self, number):
        return number if self.top == 0 else min(number, self.top)

    def has_rule(self, spot):
        return self.recipes[spot] is not None

    def needs(self, spot):
        """The spots that a spot needs, in order."""
        if not self.has_rule(spot):
            return []
        path, op, operands = self.recipes[spot]
        return spots_named(path, operands)

    def way_from(self, start, found):
        """The spots not found that are needed for one, it too, each behind those that it needs."""
        if start in found:
            return []
        done = {}
        way = [start]
        # Of each spot that was met, the needs that weren't gone to yet.
        left = {start: self.needs(start)}
        while way:
            if not left[way[-1]]:
                done[way.pop()] = True
                continue
            need = left[way[-1]].pop(0)
            if need in left and need not in done:
                raise Ring(way[way.index(need):])
            if need not in left and need not in found:
                left[need] = self.needs(need)
                way.append(need)
        return list(done)

    def number_for(self, path, operand, found):
        """The number that an operand tells, of a rule of the node at a path; None where it lacks."""
        if operand[0] == "own":
            return self.owns[path]
        if operand[0] == "number":
            return operand[1]
        return found[spot_named(path, operand)]

    def worth_by(self, spot, found):
        """What a spot is worth by those found, all that it needs; None where it lacks."""
        if spot in self.handed:
            return self.handed[spot]
        if not self.has_rule(spot):
            return None
        path, op, operands = self.recipes[spot]
        numbers = [self.number_for(path, operand, found) for operand in operands]
        return None if None in numbers else reckoned(op, numbers, cap=self.top)

    def fill_for(self, spot, found):
        """Puts what is needed for a spot into those found, and tells what was put."""
        way = self.way_from(spot, found)
        for each in way:
            found[each] = self.worth_by(each, found)
        return way

    def fill_all(self):
        """What each spot is worth, or that it lacks."""
        found = {}
        for spot in self.recipes:
            self.fill_for(spot, found)
        return found

    def road_from(self, spot, found):
        """The road of a spot that lacks."""
        road = [spot]
        while True:
            lacking = [need for need in self.needs(road[-1]) if found[need] is None]
            if not lacking:
                return road
            road.append(lacking[0])
