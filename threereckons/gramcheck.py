"""What can stand in a grammar: each row by itself, and behind those ahead.

Sorts, makings and rules that stand are held in dicts: (downs, ups) by sort,
(sort, parts) by making, (op, operands) by making and target.
"""

from threereckons.errors import BadGrammar
from threereckons.ops import is_op, op_let, parts_of
from threereckons.things import is_name, is_number, is_tuple_of, is_worth

CAP = 9
SORTS = 4
MAKINGS = 8
# Of a sort's downs, its ups, a making's parts and the names it keeps.
EACH = 2


def rows_of(part, rows):
    if not isinstance(rows, list):
        raise BadGrammar(part, 0)
    return rows


def cap_in(cap):
    if not is_number(cap) or cap > CAP:
        raise BadGrammar("cap", 0)
    return cap


def are_names(thing):
    """Whether a thing is a tuple of NAMEs, not too many."""
    if not isinstance(thing, tuple) or len(thing) > EACH:
        return False
    return all([is_name(part) for part in thing])


def sort_stands(row, sorts):
    if not is_tuple_of(row, 3) or len(sorts) == SORTS:
        return False
    sort, downs, ups = row
    if not is_name(sort) or sort in sorts or not are_names(downs) or not are_names(ups):
        return False
    return len(set(downs + ups)) == len(downs + ups)


def sorts_in(rows):
    sorts = {}
    for number, row in enumerate(rows_of("sorts", rows)):
        if not sort_stands(row, sorts):
            raise BadGrammar("sorts", number)
        sorts[row[0]] = row[1:]
    return sorts


def making_stands(row, makings, sorts):
    if not is_tuple_of(row, 3) or len(makings) == MAKINGS:
        return False
    making, sort, parts = row
    if not is_name(making) or making in makings or not are_names(parts):
        return False
    # A list can't be looked for in a dict, so it must be a NAME first.
    return is_name(sort) and all([each in sorts for each in (sort, *parts)])


def makings_in(rows, sorts):
    makings = {}
    for number, row in enumerate(rows_of("makings", rows)):
        if not making_stands(row, makings, sorts):
            raise BadGrammar("makings", number)
        makings[row[0]] = row[1:]
    return makings


def worths_at(place, form, sorts):
    """The downs and ups of a place of a making; none where there's no such place."""
    places = (form[0], *form[1])
    if not is_number(place) or place >= len(places):
        return (), ()
    return sorts[places[place]]


def is_at(thing):
    return is_tuple_of(thing, 3) and thing[0] == "at"


def is_kept(thing, form, sorts):
    """Whether a thing is ("kept", name), as a target or an operand."""
    if not is_tuple_of(thing, 2) or thing[0] != "kept":
        return False
    downs, ups = sorts[form[0]]
    return is_name(thing[1]) and thing[1] not in downs + ups


def is_target(thing, form, sorts):
    if not is_at(thing):
        return is_kept(thing, form, sorts)
    downs, ups = worths_at(thing[1], form, sorts)
    return thing[2] in (ups if thing[1] == 0 else downs)


def is_operand(thing, form, sorts):
    if is_at(thing):
        downs, ups = worths_at(thing[1], form, sorts)
        return thing[2] in (downs if thing[1] == 0 else ups)
    if is_tuple_of(thing, 2) and thing[0] == "number":
        return is_worth(thing[1])
    return thing == ("own",) or is_kept(thing, form, sorts)


def kept_by(making, rules):
    """The rising list of the names that a making's rules keep."""
    terms = []
    for whose, target in rules:
        if whose == making:
            terms.append(target)
            terms.extend(rules[(whose, target)][1])
    return sorted(set([term[1] for term in terms if term[0] == "kept"]))


def rule_is_so(row, makings, sorts, cap):
    """Whether a rule can stand by itself."""
    if not is_tuple_of(row, 4):
        return False
    making, target, op, operands = row
    if not is_name(making) or making not in makings:
        return False
    form = makings[making]
    if not is_target(target, form, sorts) or not is_op(op) or not op_let(op, cap=cap):
        return False
    if not is_tuple_of(operands, parts_of(op)):
        return False
    return all([is_operand(operand, form, sorts) for operand in operands])


def rules_in(rows, makings, sorts, cap):
    rules = {}
    for number, row in enumerate(rows_of("rules", rows)):
        if not rule_is_so(row, makings, sorts, cap) or row[:2] in rules:
            raise BadGrammar("rules", number)
        rules[row[:2]] = row[2:]
        if len(kept_by(row[0], rules)) > EACH:
            raise BadGrammar("rules", number)
    return rules
