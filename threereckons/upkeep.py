"""Worths kept up while the tree is changed."""

from threereckons.errors import NoGiven, NoTree
from threereckons.keeping import keeping_behind, keeping_of
from threereckons.limits import NODES, PLACES
from threereckons.needs import check_spot
from threereckons.things import is_worth
from threereckons.trees import is_tree, nodes_of, part_at, put_at, sort_of


def is_too_great(tree):
    paths = nodes_of(tree)
    return len(paths) > NODES or any([len(path) > PLACES for path in paths])


class Upkeep:
    """A tree whose worths are kept up."""

    def __init__(self, grammar, tree, *, given=()):
        self.base = grammar
        # What stands now is the last one, what stood ahead of each deed the one ahead of it.
        self.states = [keeping_of(grammar, tree, given)]
        self.many = len([spot for spot in self.now().web.recipes if self.now().web.has_rule(spot)])

    def now(self):
        return self.states[-1]

    def change_to(self, tree, given, top):
        """Does a deed, and tells how many rules it reckoned anew."""
        state, many = keeping_behind(self.base, self.now(), tree, given, top)
        self.states.append(state)
        self.many += many
        return many

    def put(self, path, part):
        """A part comes in the place of the tree at a path."""
        sort = sort_of(self.base, part_at(self.tree(), path))
        if not is_tree(self.base, part, sort=sort):
            raise NoTree(part)
        whole = put_at(self.tree(), path, part)
        if is_too_great(whole):
            raise NoTree(part)
        return self.change_to(whole, self.given(), path)

    def mark(self, path, own):
        """The node at a path bears another number."""
        making, number, parts = part_at(self.tree(), path)
        if not is_worth(own):
            raise NoTree(own)
        return self.change_to(put_at(self.tree(), path, (making, own, parts)), self.given(), None)

    def give(self, down, number):
        """A number is given for one of the tree's own downs, or none any more."""
        downs, ups = self.base.worths_of(sort_of(self.base, self.tree()))
        if down not in downs or not (number is None or is_worth(number)):
            raise NoGiven((down, number))
        given = [pair for pair in self.given() if pair[0] != down]
        if number is not None:
            given.append((down, number))
        return self.change_to(self.tree(), given, None)

    def undo(self):
        """The last deed is undone; False where there's none."""
        if len(self.states) == 1:
            return False
        self.states.pop()
        return True

    def deeds(self):
        """How many deeds are done and not undone."""
        return len(self.states) - 1

    def reckoned(self):
        """How many rules were reckoned in all."""
        return self.many

    def worth(self, path, name):
        """The number that a spot is worth, None where it lacks."""
        check_spot(self.base, self.tree(), (path, name))
        return self.now().found[(path, name)]

    def worths(self):
        """The list of (path, name, number) of all spots, number None of what lacks."""
        found = self.now().found
        return [(path, name, found[(path, name)]) for path, name in self.now().web.recipes]

    def road(self, path, name):
        """The road of a spot that lacks, else an empty list."""
        if self.worth(path, name) is not None:
            return []
        return self.now().web.road_from((path, name), self.now().found)

    def tree(self):
        return self.now().whole

    def given(self):
        """The rising list of (down, number), as it was given."""
        return list(self.now().gifts)

    def twin(self):
        """An Upkeep of its own that is the same in all."""
        other = Upkeep(self.base, self.tree(), given=self.given())
        other.states = list(self.states)
        other.many = self.many
        return other
