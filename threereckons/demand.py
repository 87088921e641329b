"""Worths reckoned on demand, each one kept."""

from threereckons.errors import Lacks, Ring, TooMuch
from threereckons.limits import LIMIT
from threereckons.needs import check_spot
from threereckons.webs import Web


class Demand:
    """A tree whose worths are reckoned when they are asked for."""

    def __init__(self, grammar, tree, *, given=()):
        self.web = Web(grammar, tree, given)
        self.base = grammar
        self.whole = tree
        self.held = {}

    def worth(self, path, name, *, limit=LIMIT):
        """The number that a spot is worth."""
        spot = (path, name)
        check_spot(self.base, self.whole, spot)
        found = {each: self.held[each] for each in self.held}
        way = self.web.fill_for(spot, found)
        if found[spot] is None:
            raise Lacks(self.web.road_from(spot, found))
        fresh = [each for each in way if self.web.has_rule(each)]
        if len(fresh) > limit:
            raise TooMuch(len(fresh))
        for each in fresh:
            self.held[each] = found[each]
        return found[spot]

    def kept(self):
        """The list of (path, name, number) of the spots with a rule that were reckoned."""
        spots = [spot for spot in self.web.recipes if spot in self.held]
        return [(path, name, self.held[(path, name)]) for path, name in spots]

    def reckoned(self):
        """How many spots with a rule were reckoned."""
        return len(self.held)

    def forget(self):
        """From now on nothing is kept, or was reckoned."""
        self.held = {}

    def rings(self):
        """Whether there's a ring in the tree."""
        try:
            self.web.fill_all()
        except Ring:
            return True
        return False


def by_demand(grammar, tree, *, given=()):
    """The list of (path, name, number) of all spots, number None of what lacks."""
    web = Web(grammar, tree, given)
    found = web.fill_all()
    return [(path, name, found[(path, name)]) for path, name in web.recipes]
