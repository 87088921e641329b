"""What the spots of a tree are reckoned of, and going through them by needs."""

from threereckons.errors import NoGiven, NoTree, Ring
from threereckons.needs import rule_at, spot_named, spots_of
from threereckons.ops import reckoned
from threereckons.things import is_number, is_tuple_of, is_worth
from threereckons.trees import is_tree, part_at, sort_of


def is_given(grammar, tree, thing):
    """Whether a thing can be given to a tree of the grammar."""
    if not isinstance(thing, list):
        return thing == ()
    downs, ups = grammar.worths_of(sort_of(grammar, tree))
    for pair in thing:
        if not is_tuple_of(pair, 2) or pair[0] not in downs or not is_worth(pair[1]):
            return False
    return len(set([pair[0] for pair in thing])) == len(thing)


def recipe_at(grammar, tree, spot):
    """A spot's op and terms, each a number or a spot; None where it has no rule."""
    found = rule_at(grammar, tree, spot)
    if found is None:
        return None
    path, rule = found
    terms = []
    for operand in rule[3]:
        if operand[0] == "own":
            terms.append(part_at(tree, path)[1])
        elif operand[0] == "number":
            terms.append(operand[1])
        else:
            terms.append(spot_named(path, operand))
    return rule[2], terms


class Web:
    """A tree's spots in order, with what each is reckoned of, and what is given.

    What was found of them is held in dicts by spots: numbers, None of what
    lacks. Nothing in a web changes.
    """

    def __init__(self, grammar, tree, given):
        if not is_tree(grammar, tree):
            raise NoTree(tree)
        if not is_given(grammar, tree, given):
            raise NoGiven(given)
        self.top = grammar.cap()
        self.recipes = {spot: recipe_at(grammar, tree, spot) for spot in spots_of(grammar, tree)}
        self.handed = {((), down): self.under_top(number) for down, number in given}

    def under_top(self, number):
        return number if self.top == 0 else min(number, self.top)

    def has_rule(self, spot):
        return self.recipes[spot] is not None

    def needs(self, spot):
        """The spots that a spot needs, in order."""
        if not self.has_rule(spot):
            return []
        op, terms = self.recipes[spot]
        return [term for term in terms if not is_number(term)]

    def way_from(self, start, found):
        """The spots not found that are needed for one, it too, each behind those that it needs."""
        if start in found:
            return []
        done = {}
        way = [start]
        # Of each spot that was met, the needs that weren't gone to yet.
        left = {start: self.needs(start)}
        while way:
            if not left[way[-1]]:
                done[way.pop()] = True
                continue
            need = left[way[-1]].pop(0)
            if need in left and need not in done:
                raise Ring(way[way.index(need):])
            if need not in left and need not in found:
                left[need] = self.needs(need)
                way.append(need)
        return list(done)

    def worth_by(self, spot, found):
        """What a spot is worth by those found, all that it needs; None where it lacks."""
        if spot in self.handed:
            return self.handed[spot]
        if not self.has_rule(spot):
            return None
        op, terms = self.recipes[spot]
        numbers = [term if is_number(term) else found[term] for term in terms]
        return None if None in numbers else reckoned(op, numbers, cap=self.top)

    def fill_for(self, spot, found):
        """Puts what is needed for a spot into those found, and tells what was put."""
        way = self.way_from(spot, found)
        for each in way:
            found[each] = self.worth_by(each, found)
        return way

    def fill_all(self):
        """What each spot is worth, or that it lacks."""
        found = {}
        for spot in self.recipes:
            self.fill_for(spot, found)
        return found

    def road_from(self, spot, found):
        """The road of a spot that lacks."""
        road = [spot]
        while True:
            lacking = [need for need in self.needs(road[-1]) if found[need] is None]
            if not lacking:
                return road
            road.append(lacking[0])
