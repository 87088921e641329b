"""Two grammars joined to one."""

from threereckons.errors import Clash
from threereckons.grammar import Grammar


def told_by_name(grammar):
    """By each sort, making and rule of a grammar what it tells of it, each kind in its order."""
    sorts = {sort: (downs, ups) for sort, downs, ups in grammar.sorts()}
    makings = {making: (sort, parts) for making, sort, parts in grammar.makings()}
    rules = {(making, target): (op, operands) for making, target, op, operands in grammar.rules()}
    return sorts, makings, rules


def unlike(mine, theirs):
    """What both tell, but unlike."""
    return [name for name in mine if name in theirs and mine[name] != theirs[name]]


def clashes(one, other):
    """The rising list of (word, name, mine, theirs) that two grammars tell unlike."""
    found = []
    if one.cap() != other.cap():
        found.append(("cap", "", one.cap(), other.cap()))
    my_sorts, my_makings, my_rules = told_by_name(one)
    sorts, makings, rules = told_by_name(other)
    for sort in unlike(my_sorts, sorts):
        found.append(("sort", sort, my_sorts[sort], sorts[sort]))
    for making in unlike(my_makings, makings):
        found.append(("making", making, my_makings[making], makings[making]))
    for making, target in unlike(my_rules, rules):
        mine, theirs = my_rules[(making, target)], rules[(making, target)]
        found.append(("rule", making, (target, *mine), (target, *theirs)))
    return sorted(found)


def rows_joined(mine, theirs, names):
    """My rows, then those of theirs whose names, which so many parts of a row make up, mine have not."""
    known = {row[:names]: True for row in mine}
    return mine + [row for row in theirs if row[:names] not in known]


def joined(one, other):
    """The Grammar with what one tells, then what other alone tells."""
    found = clashes(one, other)
    if found:
        raise Clash(found[0])
    sorts = rows_joined(one.sorts(), other.sorts(), 1)
    makings = rows_joined(one.makings(), other.makings(), 1)
    rules = rows_joined(one.rules(), other.rules(), 2)
    return Grammar(sorts, makings, rules, cap=one.cap())
