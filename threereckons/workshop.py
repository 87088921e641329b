"""A workshop: grammars and trees by names, deeds that can be undone, and runs of them."""

from threereckons.errors import NoTree, Taken, TooMuch
from threereckons.grammar import found_by
from threereckons.gramtext import grammar_in
from threereckons.limits import LIMIT, ROUNDS
from threereckons.resting import rest_of
from threereckons.trees import part_at, sort_of
from threereckons.treetext import tree_of, tree_text
from threereckons.upkeep import Upkeep, is_too_great


class Workshop:
    """Grammars and trees, which are Upkeeps, by names."""

    def __init__(self, *, limit=LIMIT):
        self.limit = limit
        # What stands now is the last pair of grammars and trees, what stood ahead of each deed the one ahead of it.
        # None of these is changed once it stands, so a run that is refused needs only to take the old ones back.
        self.states = (({}, {}),)
        self.many = 0
        self.level = 0
        self.ends = []

    def laid(self):
        return self.states[-1][0]

    def planted(self):
        return self.states[-1][1]

    def check_free(self, name):
        if name in self.laid() or name in self.planted():
            raise Taken(name)

    def stand_now(self, grammars, trees, many):
        """Ends a deed that reckoned so many rules, and tells these."""
        self.states = (*self.states, (grammars, trees))
        self.many += many
        return many

    def keep(self, name, upkeep, many):
        """Ends a deed behind which a tree is so kept up, where it didn't reckon too many rules."""
        if many > self.limit:
            raise TooMuch(many)
        return self.stand_now(self.laid(), {**self.planted(), name: upkeep}, many)

    def lay(self, name, text):
        """The Grammar of a text is called so."""
        self.check_free(name)
        return self.stand_now({**self.laid(), name: grammar_in(text)}, self.planted(), 0)

    def plant(self, name, grammar, text, *, given=()):
        """The tree of a text, of the grammar so called, is kept up by a name."""
        self.check_free(name)
        base = self.grammar(grammar)
        tree = tree_of(base, text)
        if is_too_great(tree):
            raise NoTree(text)
        upkeep = Upkeep(base, tree, given=given)
        return self.keep(name, upkeep, upkeep.reckoned())

    def put(self, name, path, text):
        """The tree of a text comes in the place of the one at a path."""
        upkeep = self.called(name).twin()
        sort = sort_of(upkeep.base, part_at(upkeep.tree(), path))
        part = tree_of(upkeep.base, text, sort=sort)
        return self.keep(name, upkeep, upkeep.put(path, part))

    def mark(self, name, path, own):
        """The node at a path bears another number."""
        upkeep = self.called(name).twin()
        return self.keep(name, upkeep, upkeep.mark(path, own))

    def give(self, name, down, number):
        """A number is given for one of the tree's own downs, or none any more."""
        upkeep = self.called(name).twin()
        return self.keep(name, upkeep, upkeep.give(down, number))

    def uproot(self, name):
        """The tree so called is there no more."""
        self.called(name)
        trees = self.planted()
        return self.stand_now(self.laid(), {each: trees[each] for each in trees if each != name}, 0)

    def undo(self):
        """The last deed is undone; False where there's none."""
        if len(self.states) == 1:
            return False
        self.states = self.states[:-1]
        return True

    def names(self):
        """The pair of the rising lists of names of grammars and of trees."""
        return sorted(self.laid()), sorted(self.planted())

    def called(self, name):
        """The Upkeep so called, which is never changed."""
        return found_by(name, self.planted())

    def ask(self, name, path, worth):
        """The number that a spot is worth, None where it lacks."""
        return self.called(name).worth(path, worth)

    def tree(self, name):
        """The text of a tree."""
        return tree_text(self.called(name).tree())

    def worths(self, name):
        """The list of (path, name, number) of all spots of a tree, number None of what lacks."""
        return self.called(name).worths()

    def road(self, name, path, worth):
        """The road of a spot that lacks, else an empty list."""
        return self.called(name).road(path, worth)

    def grammar(self, name):
        """The Grammar so called."""
        return found_by(name, self.laid())

    def rest(self, name, *, rounds=ROUNDS):
        """The list of (path, name, number, round) of a tree at rest."""
        upkeep = self.called(name)
        return rest_of(upkeep.base, upkeep.tree(), given=upkeep.given(), rounds=rounds)

    def deeds(self):
        """How many deeds can be undone."""
        return len(self.states) - 1

    def total(self):
        """How many rules were reckoned by deeds that weren't refused."""
        return self.many

    def done(self, step):
        """Does a step of a run, and tells what it tells."""
        word, *handed = step
        if word == "lay":
            return self.lay(*handed)
        if word == "plant":
            name, grammar, text, given = handed
            return self.plant(name, grammar, text, given=given)
        if word == "put":
            return self.put(*handed)
        if word == "mark":
            return self.mark(*handed)
        if word == "give":
            return self.give(*handed)
        if word == "uproot":
            return self.uproot(*handed)
        if word == "undo":
            return self.undo()
        steps, whole = handed
        return self.run(steps, whole=whole)

    def run(self, steps, *, whole=True):
        """Does steps one behind the other; where one is refused, all is as ahead, but by whole False."""
        states, many = self.states, self.many
        ahead = states if whole else None
        told = None
        self.level += 1
        self.ends.append(("begin", self.level))
        try:
            told = [self.done(step) for step in steps]
        finally:
            if told is None and ahead is not None:
                self.states, self.many = states, many
            self.ends.append(("end", self.level))
            self.level -= 1
        return told

    def depth(self):
        """How many runs are under way."""
        return self.level

    def log(self):
        """The list of the beginnings and ends of all runs, each with its depth."""
        return list(self.ends)
