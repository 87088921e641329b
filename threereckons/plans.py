"""Orders made ahead, that do for all trees of a grammar."""

from threereckons.errors import NoRow, Ringed
from threereckons.going import Going
from threereckons.orders import is_key, rows_by_key
from threereckons.rings import ring_ahead
from threereckons.webs import Web


class Plans:
    """The rows of a grammar, which never change."""

    def __init__(self, grammar):
        found = ring_ahead(grammar)
        if found is not None:
            raise Ringed(found[0], found[1])
        self.base = grammar
        self.table = rows_by_key(grammar)

    def rows(self):
        """The rising list of (making, graphs, order, steps)."""
        return sorted([(*key, self.table[key]) for key in self.table])

    def __len__(self):
        return len(self.table)

    def __eq__(self, other):
        return isinstance(other, Plans) and self.table == other.table

    def steps_for(self, making, graphs, order):
        """The steps of a row."""
        if not is_key(making, graphs, order) or (making, graphs, order) not in self.table:
            raise NoRow(making)
        return self.table[(making, graphs, order)]

    def worths(self, tree, *, given=()):
        """The list of (path, name, number) of all spots, number None of what lacks."""
        web = Web(self.base, tree, given)
        found = {}
        for spot in Going(self.base, tree, self.table).met:
            found[spot] = web.worth_by(spot, found)
        return [(path, name, found[(path, name)]) for path, name in web.recipes]
