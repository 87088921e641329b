"""What several tests share: grammars and trees by chance, things of any make, and spoiling."""

import bisect
import random
import re

TOP = 999999
WORDS = "a b c d e f g h up down leaf node val env abcdef zzzzzz at kept number cap sort make rule copy".split()
PARTS = {
    "copy": 1, "plus": 2, "less": 2, "times": 2, "over": 2, "rest": 2,
    "least": 2, "most": 2, "same": 2, "under": 2, "pick": 3,
}
LET = ["copy", "plus", "least", "most"]


def nested(depth, make, inner=()):
    thing = make(inner)
    for step in range(depth - 1):
        thing = make([thing])
    return thing


THINGS = [
    0, 1, 2, 3, -1, -7, TOP, 10 ** 6, 10 ** 30, True, False, None,
    "", "a", "own", "abcdefg", "A", "a b", "1", "%", "leaf", "at", "\n",
    (), (1,), (0,), (3,), (-1,), (True,), (None,), ("1",), ((),), ([],), (1, True), (1, 2, 1), ((1,), "up"),
    [], [1], [True], [[]], [()], ["a"], ["a", 0, []], ("a", 0, []), ("leaf", 0, ()), ("leaf", True, ()),
    ("leaf", 0, (), ()), ("leaf", 0), [("a", 1)], ("own",), ["own"], ("number", 3), ("at", 0, "a"), ("kept", "a"),
    ((), "val"), ([], "val"), [(), "val"], ((), ["val"]), ((), None), ((), True), ((), ()),
    nested(80, list), nested(80, tuple), nested(79, tuple, [None]), [nested(79, tuple)], (nested(79, list), "a"),
]


def same(test, told, due):
    """Alike in kinds too: True == 1, but isn't the same."""
    test.assertEqual(repr(told), repr(due))


def is_name(thing):
    return type(thing) is str and re.fullmatch("[a-z]{1,6}", thing) is not None and thing != "own"


# --- grammars ---


def places(makings, making):
    """The sorts of places 0, 1 and 2."""
    for name, sort, parts in makings:
        if name == making:
            return [sort, *parts]


def targets(sorts, makings, making, kept=()):
    worths = {sort: (downs, ups) for sort, downs, ups in sorts}
    own, *parts = places(makings, making)
    found = [("at", 0, up) for up in worths[own][1]]
    for at, part in enumerate(parts, 1):
        found += [("at", at, down) for down in worths[part][0]]
    return found + [("kept", name) for name in kept]


def operands(sorts, makings, making, kept=()):
    worths = {sort: (downs, ups) for sort, downs, ups in sorts}
    own, *parts = places(makings, making)
    found = [("at", 0, down) for down in worths[own][0]]
    for at, part in enumerate(parts, 1):
        found += [("at", at, up) for up in worths[part][1]]
    return found + [("kept", name) for name in kept] + [("own",)]


def number_by_chance(rng):
    return rng.choice([0, 1, 2, 3, 9, 10, 77, 1000, TOP, rng.randrange(10 ** 6)])


def rank(term):
    """Rules of which each needs only what is of a lesser rank make no rings."""
    if term[0] == "kept":
        return (0.5, term[1])
    if term[0] == "at":
        return (term[1] if term[1] else 9, "")
    return (0, "")


def ringless(target, terms):
    downs = [term for term in terms if term[0] == "at" and term[1] == 0]
    return downs + [term for term in terms if term not in downs and rank(term) < rank(target)]


def rules_by_chance(rng, sorts, makings, cap, share, calm):
    worths = {sort: downs + ups for sort, downs, ups in sorts}
    rules = []
    for making, sort, parts in makings:
        names = [word for word in WORDS if word not in worths[sort]]
        kept = rng.sample(names, rng.choice([0, 0, 1, 2]))
        terms = operands(sorts, makings, making, kept)
        for target in targets(sorts, makings, making, kept):
            if rng.random() < share:
                op = rng.choice(LET if cap else list(PARTS))
                fitting = ringless(target, terms) if calm else terms
                chosen = [rng.choice([rng.choice(fitting), ("number", number_by_chance(rng)), rng.choice(fitting)])
                          for step in range(PARTS[op])]
                rules.append((making, target, op, tuple(chosen)))
    return rules


def rows_by_chance(rng, *, many_sorts=None, many_makings=None, cap=None, share=None, calm=None):
    """(sorts, makings, rules, cap) of a grammar; the first makings have no parts, so most sorts have trees."""
    cap = rng.choice([0, 0, 0, 1, 4, 9]) if cap is None else cap
    share = rng.choice([1, 1, 0.9, 0.6]) if share is None else share
    calm = rng.random() < 0.4 if calm is None else calm
    sorts = []
    for name in rng.sample(WORDS, rng.randint(1, 4) if many_sorts is None else many_sorts):
        worths = rng.sample(WORDS, 4)
        sorts.append((name, tuple(worths[:rng.randint(0, 2)]), tuple(worths[2:2 + rng.randint(0, 2)])))
    names = [row[0] for row in sorts]
    makings = []
    if names:
        many = rng.randint(1, 8) if many_makings is None else many_makings
        for at, making in enumerate(rng.sample(WORDS, many)):
            sort = names[at] if at < len(names) and rng.random() < 0.9 else rng.choice(names)
            parts = rng.choices(names, k=0 if at < len(names) and rng.random() < 0.7 else rng.choice([0, 1, 2, 2]))
            makings.append((making, sort, tuple(parts)))
    rules = rules_by_chance(rng, sorts, makings, cap, share, calm)
    for rows in (sorts, makings, rules):
        rng.shuffle(rows)
    return sorts, makings, rules, cap


def grammars_by_chance(seed, many, **told):
    rng = random.Random(seed)
    return [rows_by_chance(rng, **told) for step in range(many)]


# A grammar written out: let binds what its first part is worth.
LET_SORTS = [("exp", ("env",), ("val",)), ("top", (), ("out", "size"))]
LET_MAKINGS = [
    ("let", "exp", ("exp", "exp")), ("leaf", "exp", ()), ("use", "exp", ()), ("root", "top", ("exp",)),
]
LET_RULES = [
    ("let", ("at", 1, "env"), "copy", (("at", 0, "env"),)),
    ("let", ("at", 2, "env"), "plus", (("at", 1, "val"), ("kept", "extra"))),
    ("let", ("kept", "extra"), "times", (("own",), ("number", 7))),
    ("let", ("at", 0, "val"), "copy", (("at", 2, "val"),)),
    ("leaf", ("at", 0, "val"), "copy", (("own",),)),
    ("use", ("at", 0, "val"), "copy", (("at", 0, "env"),)),
    ("root", ("at", 1, "env"), "copy", (("number", 5),)),
    ("root", ("at", 0, "out"), "pick", (("at", 1, "val"), ("number", 10), ("own",))),
]
LET_TEXT = """sort exp env / val
sort top / out size
make let exp exp exp
make leaf exp
make use exp
make root top exp
rule let 1.env copy 0.env
rule let 2.env plus 1.val extra
rule let extra times own 7
rule let 0.val copy 2.val
rule leaf 0.val copy own
rule use 0.val copy 0.env
rule root 1.env copy 5
rule root 0.out pick 1.val 10 own"""


# --- trees ---


def fewest(makings):
    """By sort, of how many nodes its smallest trees are."""
    many = {}
    for step in range(10):
        for making, sort, parts in makings:
            if all(part in many for part in parts):
                size = 1 + sum(many[part] for part in parts)
                many[sort] = min(size, many.get(sort, size))
    return many


def tree_by_chance(rng, makings, sort, nodes):
    """A tree of a sort, of about so many nodes; None where there's none."""
    many = fewest(makings)
    if sort not in many:
        return None

    def grown(sort, nodes):
        fitting = []
        for making, whose, parts in makings:
            if whose == sort and all(part in many for part in parts):
                size = 1 + sum(many[part] for part in parts)
                fitting.append((size, making, parts))
        small = [row for row in fitting if row[0] <= nodes] or [min(fitting)]
        large = [row for row in small if row[2]]
        size, making, parts = rng.choice(large if large and rng.random() < 0.8 else small)
        spare = max(0, nodes - size)
        shares = [rng.randint(0, spare)] if len(parts) == 2 else [spare]
        shares.append(spare - shares[0])
        inner = [grown(part, many[part] + share) for part, share in zip(parts, shares)]
        return (making, number_by_chance(rng), tuple(inner))

    return grown(sort, nodes)


def trees_by_chance(rng, rows, many, nodes):
    sorts, makings, rules, cap = rows
    found = []
    for step in range(many):
        if sorts:
            tree = tree_by_chance(rng, makings, rng.choice(sorts)[0], rng.randint(1, nodes))
            if tree is not None:
                found.append(tree)
    return found


def size_of(tree):
    return 1 + sum(size_of(part) for part in tree[2])


def walk(tree, path=()):
    """All (path, node), by the words of the document."""
    found = [(path, tree)]
    for place, part in enumerate(tree[2], 1):
        found += walk(part, path + (place,))
    return found


def all_trees(makings, sort, nodes, known=None):
    """All trees of a sort of just so many nodes that all bear 0."""
    known = {} if known is None else known
    if (sort, nodes) not in known:
        found = []
        for making, whose, parts in makings:
            if whose != sort:
                continue
            if len(parts) == 0 and nodes == 1:
                found.append((making, 0, ()))
            if len(parts) == 1 and nodes > 1:
                found += [(making, 0, (one,)) for one in all_trees(makings, parts[0], nodes - 1, known)]
            if len(parts) == 2:
                for first in range(1, nodes - 1):
                    ones = all_trees(makings, parts[0], first, known)
                    others = all_trees(makings, parts[1], nodes - 1 - first, known)
                    found += [(making, 0, (one, other)) for one in ones for other in others]
        known[(sort, nodes)] = found
    return known[(sort, nodes)]


# --- spoiling ---


def replaced(thing):
    """Things to stand in the place of another one."""
    found = [True, False, None, 0, 1, 2, 3, 7, -1, TOP, 10 ** 6, "", "a", "own", "abcdefg", "A", "at", (), [], ("a",)]
    if isinstance(thing, tuple):
        found += [list(thing), thing + ("a",), thing + (0,), thing[:-1], thing[1:], thing[::-1], (thing,), [thing]]
        found += [thing + thing[:1], thing[:1] + thing]
    if isinstance(thing, list):
        found += [tuple(thing), thing + thing[:1], thing[:-1], thing[::-1], [thing], (thing,), thing + [None]]
    if isinstance(thing, str):
        found += [thing + "a", thing[:-1], thing + " ", thing.upper(), [thing], (thing,), list(thing), tuple(thing)]
    if type(thing) is int:
        found += [thing + 1, thing - 1, -thing, str(thing), [thing], (thing,), bool(thing)]
    return found


def spoilt(thing):
    """The thing with what is at one place in it, at whatever depth, replaced."""
    yield from replaced(thing)
    if isinstance(thing, (list, tuple)):
        for at, part in enumerate(thing):
            for other in spoilt(part):
                parts = list(thing)
                parts[at] = other
                yield parts if isinstance(thing, list) else tuple(parts)


def copied(thing):
    if isinstance(thing, (list, tuple)):
        parts = [copied(part) for part in thing]
        return parts if isinstance(thing, list) else tuple(parts)
    return thing


# --- what can stand in a grammar, told of whole lists ---


def names_so(thing):
    return type(thing) is tuple and len(thing) <= 2 and all(is_name(name) for name in thing)


def sorts_so(rows):
    for row in rows:
        if type(row) is not tuple or len(row) != 3 or not is_name(row[0]):
            return False
        if not names_so(row[1]) or not names_so(row[2]):
            return False
        if len(set(row[1] + row[2])) < len(row[1] + row[2]):
            return False
    return len(rows) <= 4 and len(set(row[0] for row in rows)) == len(rows)


def makings_so(rows, sorts):
    names = [row[0] for row in sorts]
    for row in rows:
        if type(row) is not tuple or len(row) != 3 or not is_name(row[0]) or not names_so(row[2]):
            return False
        if row[1] not in names or any(part not in names for part in row[2]):
            return False
    return len(rows) <= 8 and len(set(row[0] for row in rows)) == len(rows)


def kept_so(thing, worths):
    if type(thing) is not tuple or len(thing) != 2 or thing[0] != "kept":
        return False
    return is_name(thing[1]) and thing[1] not in worths


def rules_so(rows, sorts, makings, cap):
    seen = []
    kept = {row[0]: set() for row in makings}
    for row in rows:
        if type(row) is not tuple or len(row) != 4 or row[0] not in [name for name, sort, parts in makings]:
            return False
        making, target, op, terms = row
        worths = [downs + ups for sort, downs, ups in sorts if sort == places(makings, making)[0]][0]
        if type(op) is not str or op not in (LET if cap else PARTS) or type(terms) is not tuple:
            return False
        if len(terms) != PARTS[op]:
            return False
        # By what is shown 1 and True, and a list and a tuple, are unlike.
        if repr(target) not in map(repr, targets(sorts, makings, making)) and not kept_so(target, worths):
            return False
        shown = [repr(term) for term in operands(sorts, makings, making)]
        for term in terms:
            number = type(term) is tuple and len(term) == 2 and term[0] == "number"
            if number and not (type(term[1]) is int and 0 <= term[1] <= TOP):
                return False
            if not number and repr(term) not in shown and not kept_so(term, worths):
                return False
        kept[making] |= {term[1] for term in (target, *terms) if term[0] == "kept"}
        seen.append((making, target))
    return len(set(seen)) == len(seen) and all(len(names) <= 2 for names in kept.values())


def first_bad(sorts, makings, rules, cap):
    """(part, row) as BadGrammar must bear it; None where all can stand."""
    if type(cap) is not int or not 0 <= cap <= 9:
        return ("cap", 0)
    checks = [
        ("sorts", sorts, sorts_so),
        ("makings", makings, lambda rows: makings_so(rows, sorts)),
        ("rules", rules, lambda rows: rules_so(rows, sorts, makings, cap)),
    ]
    for part, rows, so in checks:
        if type(rows) is not list:
            return (part, 0)
        if not so(rows):
            # What stands behind a row mends nothing, so the first one is sought by halves.
            return (part, bisect.bisect_left(range(len(rows)), True, key=lambda row: not so(rows[:row + 1])))
    return None


# --- spots, as the document tells of them ---


def kept_names(rules, making):
    terms = [term for whose, target, op, terms in rules if whose == making for term in (target, *terms)]
    return sorted({term[1] for term in terms if term[0] == "kept"})


def spots_due(rows, tree):
    sorts, makings, rules, cap = rows
    worths = {sort: downs + ups for sort, downs, ups in sorts}
    found = []
    for path, node in walk(tree):
        names = worths[places(makings, node[0])[0]]
        found += [(path, name) for name in (*names, *kept_names(rules, node[0]))]
    return found


def spot_due(path, term):
    """The spot that a target or an operand of a rule of the node there names; None where it names none."""
    if term[0] == "kept":
        return (path, term[1])
    if term[0] == "at":
        return (path if term[1] == 0 else (*path, term[1]), term[2])
    return None


def rules_due(rows, tree):
    """By each spot that has a rule the pair (path, rule)."""
    found = {}
    for path, node in walk(tree):
        for rule in rows[2]:
            if rule[0] == node[0]:
                found[spot_due(path, rule[1])] = (path, rule)
    return found


def needs_due(rows, tree):
    """By each spot the list of those that it needs."""
    rules = rules_due(rows, tree)
    found = {}
    for spot in spots_due(rows, tree):
        path, rule = rules.get(spot, ((), (None, None, None, ())))
        named = [spot_due(path, term) for term in rule[3]]
        found[spot] = [need for need in named if need is not None]
    return found


def reached(needs, start):
    """All to which one comes from the start by one need or more."""
    found, waiting = set(), list(needs[start])
    while waiting:
        spot = waiting.pop()
        if spot not in found:
            found.add(spot)
            waiting += needs[spot]
    return found


def no_spots(rng, spots):
    """Things that are no spots of a tree, though some are nearly."""
    shown = {repr(spot) for spot in spots}
    found = list(THINGS)
    for thing in THINGS:
        found += [(thing, rng.choice(spots)[1] if spots else "a"), (rng.choice(spots)[0] if spots else (), thing)]
    for path, name in rng.sample(spots, min(6, len(spots))):
        found += [
            [path, name], (list(path), name), (path, [name]), (path, name, 0), (path,), (name, path), (path + (1,), name),
            (path + (0,), name), (path + (3,), name), (path[:-1], name), (path, name + "a"), (path, name.upper()),
            (path, None), (path, ("at", 0, name)), (path[:-1] + (True,), name), (path + (True,), name), ((path, name),),
            (path[:-1] + (-1,), name), (path[::-1], name), (tuple(map(bool, path)), name), ("".join(map(str, path)), name),
        ]
    return [thing for thing in found if repr(thing) not in shown]
