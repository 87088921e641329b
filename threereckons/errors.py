"""The eighteen errors, each straight under one of Python's own."""

from threereckons.things import own_copy

# What an error bears may be a list that its maker changes later on, so each
# field is a copy. The words are fixed: not every thing can be shown as a text.


class BadGrammar(ValueError):
    """The part of a grammar that isn't so, and its first row that isn't."""

    def __init__(self, part, row):
        ValueError.__init__(self, "a part of the grammar isn't so")
        self.part = own_copy(part)
        self.row = own_copy(row)


class BadRow(ValueError):
    """The number of the first row that isn't so written."""

    def __init__(self, row):
        ValueError.__init__(self, "a row isn't so written")
        self.row = own_copy(row)


class BadText(ValueError):
    """The place of the first sign with which no tree's text goes on."""

    def __init__(self, at):
        ValueError.__init__(self, "a tree's text doesn't go on so")
        self.at = own_copy(at)


class NoTree(ValueError):
    """What is no tree of the grammar, or no worth that a node may bear."""

    def __init__(self, thing):
        ValueError.__init__(self, "this is no such tree")
        self.thing = own_copy(thing)


class NoGiven(ValueError):
    """What can't be given to a tree."""

    def __init__(self, thing):
        ValueError.__init__(self, "this can't be given")
        self.thing = own_copy(thing)


class NotLet(ValueError):
    """An op that isn't let under a cap."""

    def __init__(self, op, under):
        ValueError.__init__(self, "the op isn't let under the cap")
        self.op = own_copy(op)
        self.under = own_copy(under)


class NoCap(ValueError):
    """The cap of a grammar that has none."""

    def __init__(self, under):
        ValueError.__init__(self, "the grammar has no cap")
        self.under = own_copy(under)


class NoName(KeyError):
    """A name by which nothing is called."""

    def __init__(self, name):
        KeyError.__init__(self, "nothing is called so")
        self.name = own_copy(name)


class NoOp(KeyError):
    """A text that is no op."""

    def __init__(self, op):
        KeyError.__init__(self, "this is no op")
        self.op = own_copy(op)


class NoRow(KeyError):
    """The making of which there's no such row."""

    def __init__(self, making):
        KeyError.__init__(self, "there's no such row")
        self.making = own_copy(making)


class NoSpot(LookupError):
    """What is no spot of the tree."""

    def __init__(self, spot):
        LookupError.__init__(self, "the tree has no such spot")
        self.spot = own_copy(spot)


class NoNode(IndexError):
    """A path at which no node is."""

    def __init__(self, path):
        IndexError.__init__(self, "no node is there")
        self.path = own_copy(path)


class Ring(RuntimeError):
    """The spots of a ring, each of which needs the next one."""

    def __init__(self, ring):
        RuntimeError.__init__(self, "a ring is in the way")
        self.ring = own_copy(ring)


class Ringed(RuntimeError):
    """A least tree of the grammar that has a ring, and the ring."""

    def __init__(self, least, ring):
        RuntimeError.__init__(self, "a tree of the grammar has a ring")
        self.least = own_copy(least)
        self.ring = own_copy(ring)


class Clash(RuntimeError):
    """What two grammars tell unlike."""

    def __init__(self, clash):
        RuntimeError.__init__(self, "the grammars tell something unlike")
        self.clash = own_copy(clash)


class Taken(RuntimeError):
    """A name by which something is called already."""

    def __init__(self, name):
        RuntimeError.__init__(self, "something is called so already")
        self.name = own_copy(name)


class Lacks(ArithmeticError):
    """The road from a spot that lacks to one that lacks by itself."""

    def __init__(self, spots):
        ArithmeticError.__init__(self, "the spot lacks")
        self.spots = own_copy(spots)


class TooMuch(OverflowError):
    """How many there were, beyond a limit."""

    def __init__(self, many):
        OverflowError.__init__(self, "there were too many")
        self.many = own_copy(many)
