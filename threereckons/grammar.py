"""Grammars: how trees are made, and by which rules their worths are reckoned."""

from threereckons.errors import NoName
from threereckons.gramcheck import cap_in, is_at, kept_by, makings_in, rules_in, sorts_in
from threereckons.gramrows import text_rows
from threereckons.things import is_number, is_tuple_of


def found_by(name, table):
    """What a table has by a name that may be anything."""
    # A list can't be looked for in a dict.
    if not isinstance(name, str) or name not in table:
        raise NoName(name)
    return table[name]


def can_be_target(thing):
    """Whether a thing is made as targets are, whatever it names."""
    if is_at(thing):
        # In a dict True is found where 1 stands.
        return is_number(thing[1]) and isinstance(thing[2], str)
    return is_tuple_of(thing, 2) and thing[0] == "kept" and isinstance(thing[1], str)


class Grammar:
    """Sorts, makings and rules, which never change once they stand."""

    def __init__(self, sorts, makings, rules, *, cap=0):
        self.top = cap_in(cap)
        self.sort_table = sorts_in(sorts)
        self.making_table = makings_in(makings, self.sort_table)
        self.rule_table = rules_in(rules, self.making_table, self.sort_table, cap)
        self.kept_table = {making: kept_by(making, self.rule_table) for making in self.making_table}
        self.risen = (cap, sorted(sorts), sorted(makings), sorted(rules))

    def sorts(self):
        """The list of (sort, downs, ups)."""
        return [(sort, downs, ups) for sort, (downs, ups) in self.sort_table.items()]

    def makings(self):
        """The list of (making, sort, parts)."""
        return [(making, sort, parts) for making, (sort, parts) in self.making_table.items()]

    def rules(self):
        """The list of (making, target, op, operands)."""
        return [(making, target, op, operands) for (making, target), (op, operands) in self.rule_table.items()]

    def cap(self):
        return self.top

    def worths_of(self, sort):
        """The pair (downs, ups) of a sort."""
        return found_by(sort, self.sort_table)

    def making_of(self, making):
        """The pair (sort, parts) of a making."""
        return found_by(making, self.making_table)

    def rule_for(self, making, target):
        """The pair (op, operands) of a making's rule; None where there's none."""
        found_by(making, self.making_table)
        if not can_be_target(target):
            return None
        return self.rule_table.get((making, target))

    def kept_of(self, making):
        """The rising list of names that a making's rules keep."""
        return list(found_by(making, self.kept_table))

    def __len__(self):
        return len(self.making_table)

    def __eq__(self, other):
        return isinstance(other, Grammar) and self.risen == other.risen

    def __str__(self):
        return "\n".join(text_rows(self))

    def __repr__(self):
        return f"Grammar({len(self.sort_table)} sorts, {len(self.making_table)} makings)"
