"""What several tests share: grammars and trees by chance, things of any make, and spoiling."""

import bisect
import itertools
import random
import re
import unittest

from threereckons.errors import NoGiven, NoName, NoNode, NoTree, Ring, Taken, TooMuch
from threereckons.grammar import Grammar
from threereckons.gramtext import grammar_in
from threereckons.graphs import least_by_graph
from threereckons.treetext import tree_in

TOP = 999999
WORDS = "a b c d e f g h up down leaf node val env abcdef zzzzzz at kept number cap sort make rule copy".split()
PARTS = {
    "copy": 1, "plus": 2, "less": 2, "times": 2, "over": 2, "rest": 2,
    "least": 2, "most": 2, "same": 2, "under": 2, "pick": 3,
}
LET = ["copy", "plus", "least", "most"]


def nested(depth, make, inner=()):
    thing = make(inner)
    for step in range(depth - 1):
        thing = make([thing])
    return thing


THINGS = [
    0, 1, 2, 3, -1, -7, TOP, 10 ** 6, 10 ** 30, True, False, None,
    "", "a", "own", "abcdefg", "A", "a b", "1", "%", "leaf", "at", "\n",
    (), (1,), (0,), (3,), (-1,), (True,), (None,), ("1",), ((),), ([],), (1, True), (1, 2, 1), ((1,), "up"),
    [], [1], [True], [[]], [()], ["a"], ["a", 0, []], ("a", 0, []), ("leaf", 0, ()), ("leaf", True, ()),
    ("leaf", 0, (), ()), ("leaf", 0), [("a", 1)], ("own",), ["own"], ("number", 3), ("at", 0, "a"), ("kept", "a"),
    ((), "val"), ([], "val"), [(), "val"], ((), ["val"]), ((), None), ((), True), ((), ()),
    nested(80, list), nested(80, tuple), nested(79, tuple, [None]), [nested(79, tuple)], (nested(79, list), "a"),
]


def same(test, told, due):
    """Alike in kinds too: True == 1, but isn't the same."""
    test.assertEqual(repr(told), repr(due))


def is_name(thing):
    return type(thing) is str and re.fullmatch("[a-z]{1,6}", thing) is not None and thing != "own"


# --- grammars ---


def places(makings, making):
    """The sorts of places 0, 1 and 2."""
    for name, sort, parts in makings:
        if name == making:
            return [sort, *parts]


def targets(sorts, makings, making, kept=()):
    worths = {sort: (downs, ups) for sort, downs, ups in sorts}
    own, *parts = places(makings, making)
    found = [("at", 0, up) for up in worths[own][1]]
    for at, part in enumerate(parts, 1):
        found += [("at", at, down) for down in worths[part][0]]
    return found + [("kept", name) for name in kept]


def operands(sorts, makings, making, kept=()):
    worths = {sort: (downs, ups) for sort, downs, ups in sorts}
    own, *parts = places(makings, making)
    found = [("at", 0, down) for down in worths[own][0]]
    for at, part in enumerate(parts, 1):
        found += [("at", at, up) for up in worths[part][1]]
    return found + [("kept", name) for name in kept] + [("own",)]


def number_by_chance(rng):
    return rng.choice([0, 1, 2, 3, 9, 10, 77, 1000, TOP, rng.randrange(10 ** 6)])


def rank(term):
    """Rules of which each needs only what is of a lesser rank make no rings."""
    if term[0] == "kept":
        return (0.5, term[1])
    if term[0] == "at":
        return (term[1] if term[1] else 9, "")
    return (0, "")


def ringless(target, terms):
    downs = [term for term in terms if term[0] == "at" and term[1] == 0]
    return downs + [term for term in terms if term not in downs and rank(term) < rank(target)]


def rules_by_chance(rng, sorts, makings, cap, share, calm):
    worths = {sort: downs + ups for sort, downs, ups in sorts}
    rules = []
    for making, sort, parts in makings:
        names = [word for word in WORDS if word not in worths[sort]]
        kept = rng.sample(names, rng.choice([0, 0, 1, 2]))
        terms = operands(sorts, makings, making, kept)
        for target in targets(sorts, makings, making, kept):
            if rng.random() < share:
                op = rng.choice(LET if cap else list(PARTS))
                fitting = ringless(target, terms) if calm else terms
                chosen = [rng.choice([rng.choice(fitting), ("number", number_by_chance(rng)), rng.choice(fitting)])
                          for step in range(PARTS[op])]
                rules.append((making, target, op, tuple(chosen)))
    return rules


def rows_by_chance(rng, *, many_sorts=None, many_makings=None, cap=None, share=None, calm=None):
    """(sorts, makings, rules, cap) of a grammar; the first makings have no parts, so most sorts have trees."""
    cap = rng.choice([0, 0, 0, 1, 4, 9]) if cap is None else cap
    share = rng.choice([1, 1, 0.9, 0.6]) if share is None else share
    calm = rng.random() < 0.4 if calm is None else calm
    sorts = []
    for name in rng.sample(WORDS, rng.randint(1, 4) if many_sorts is None else many_sorts):
        worths = rng.sample(WORDS, 4)
        sorts.append((name, tuple(worths[:rng.randint(0, 2)]), tuple(worths[2:2 + rng.randint(0, 2)])))
    names = [row[0] for row in sorts]
    makings = []
    if names:
        many = rng.randint(1, 8) if many_makings is None else many_makings
        for at, making in enumerate(rng.sample(WORDS, many)):
            sort = names[at] if at < len(names) and rng.random() < 0.9 else rng.choice(names)
            parts = rng.choices(names, k=0 if at < len(names) and rng.random() < 0.7 else rng.choice([0, 1, 2, 2]))
            makings.append((making, sort, tuple(parts)))
    rules = rules_by_chance(rng, sorts, makings, cap, share, calm)
    for rows in (sorts, makings, rules):
        rng.shuffle(rows)
    return sorts, makings, rules, cap


def grammars_by_chance(seed, many, **told):
    rng = random.Random(seed)
    return [rows_by_chance(rng, **told) for step in range(many)]


def shuffled(rng, rows):
    """The same grammar, its rows in another order."""
    sorts, makings, rules, cap = rows
    return (*[rng.sample(part, len(part)) for part in (sorts, makings, rules)], cap)


# A grammar written out: let binds what its first part is worth.
LET_SORTS = [("exp", ("env",), ("val",)), ("top", (), ("out", "size"))]
LET_MAKINGS = [
    ("let", "exp", ("exp", "exp")), ("leaf", "exp", ()), ("use", "exp", ()), ("root", "top", ("exp",)),
]
LET_RULES = [
    ("let", ("at", 1, "env"), "copy", (("at", 0, "env"),)),
    ("let", ("at", 2, "env"), "plus", (("at", 1, "val"), ("kept", "extra"))),
    ("let", ("kept", "extra"), "times", (("own",), ("number", 7))),
    ("let", ("at", 0, "val"), "copy", (("at", 2, "val"),)),
    ("leaf", ("at", 0, "val"), "copy", (("own",),)),
    ("use", ("at", 0, "val"), "copy", (("at", 0, "env"),)),
    ("root", ("at", 1, "env"), "copy", (("number", 5),)),
    ("root", ("at", 0, "out"), "pick", (("at", 1, "val"), ("number", 10), ("own",))),
]
LET_TEXT = """sort exp env / val
sort top / out size
make let exp exp exp
make leaf exp
make use exp
make root top exp
rule let 1.env copy 0.env
rule let 2.env plus 1.val extra
rule let extra times own 7
rule let 0.val copy 2.val
rule leaf 0.val copy own
rule use 0.val copy 0.env
rule root 1.env copy 5
rule root 0.out pick 1.val 10 own"""


# --- trees ---


def fewest(makings):
    """By sort, of how many nodes its smallest trees are."""
    many = {}
    for step in range(10):
        for making, sort, parts in makings:
            if all(part in many for part in parts):
                size = 1 + sum(many[part] for part in parts)
                many[sort] = min(size, many.get(sort, size))
    return many


def tree_by_chance(rng, makings, sort, nodes):
    """A tree of a sort, of about so many nodes; None where there's none."""
    many = fewest(makings)
    if sort not in many:
        return None

    def grown(sort, nodes):
        fitting = []
        for making, whose, parts in makings:
            if whose == sort and all(part in many for part in parts):
                size = 1 + sum(many[part] for part in parts)
                fitting.append((size, making, parts))
        small = [row for row in fitting if row[0] <= nodes] or [min(fitting)]
        large = [row for row in small if row[2]]
        size, making, parts = rng.choice(large if large and rng.random() < 0.8 else small)
        spare = max(0, nodes - size)
        shares = [rng.randint(0, spare)] if len(parts) == 2 else [spare]
        shares.append(spare - shares[0])
        inner = [grown(part, many[part] + share) for part, share in zip(parts, shares)]
        return (making, number_by_chance(rng), tuple(inner))

    return grown(sort, nodes)


def trees_by_chance(rng, rows, many, nodes):
    sorts, makings, rules, cap = rows
    found = []
    for step in range(many):
        if sorts:
            tree = tree_by_chance(rng, makings, rng.choice(sorts)[0], rng.randint(1, nodes))
            if tree is not None:
                found.append(tree)
    return found


def size_of(tree):
    return 1 + sum(size_of(part) for part in tree[2])


def walk(tree, path=()):
    """All (path, node), by the words of the document."""
    found = [(path, tree)]
    for place, part in enumerate(tree[2], 1):
        found += walk(part, path + (place,))
    return found


def all_trees(makings, sort, nodes, known=None):
    """All trees of a sort of just so many nodes that all bear 0."""
    known = {} if known is None else known
    if (sort, nodes) not in known:
        found = []
        for making, whose, parts in makings:
            if whose != sort:
                continue
            if len(parts) == 0 and nodes == 1:
                found.append((making, 0, ()))
            if len(parts) == 1 and nodes > 1:
                found += [(making, 0, (one,)) for one in all_trees(makings, parts[0], nodes - 1, known)]
            if len(parts) == 2:
                for first in range(1, nodes - 1):
                    ones = all_trees(makings, parts[0], first, known)
                    others = all_trees(makings, parts[1], nodes - 1 - first, known)
                    found += [(making, 0, (one, other)) for one in ones for other in others]
        known[(sort, nodes)] = found
    return known[(sort, nodes)]


# --- spoiling ---


def replaced(thing):
    """Things to stand in the place of another one."""
    found = [True, False, None, 0, 1, 2, 3, 7, -1, TOP, 10 ** 6, "", "a", "own", "abcdefg", "A", "at", (), [], ("a",)]
    if isinstance(thing, tuple):
        found += [list(thing), thing + ("a",), thing + (0,), thing[:-1], thing[1:], thing[::-1], (thing,), [thing]]
        found += [thing + thing[:1], thing[:1] + thing]
    if isinstance(thing, list):
        found += [tuple(thing), thing + thing[:1], thing[:-1], thing[::-1], [thing], (thing,), thing + [None]]
    if isinstance(thing, str):
        found += [thing + "a", thing[:-1], thing + " ", thing.upper(), [thing], (thing,), list(thing), tuple(thing)]
    if type(thing) is int:
        found += [thing + 1, thing - 1, -thing, str(thing), [thing], (thing,), bool(thing)]
    return found


def spoilt(thing):
    """The thing with what is at one place in it, at whatever depth, replaced."""
    yield from replaced(thing)
    if isinstance(thing, (list, tuple)):
        for at, part in enumerate(thing):
            for other in spoilt(part):
                parts = list(thing)
                parts[at] = other
                yield parts if isinstance(thing, list) else tuple(parts)


def copied(thing):
    if isinstance(thing, (list, tuple)):
        parts = [copied(part) for part in thing]
        return parts if isinstance(thing, list) else tuple(parts)
    return thing


# --- what can stand in a grammar, told of whole lists ---


def names_so(thing):
    return type(thing) is tuple and len(thing) <= 2 and all(is_name(name) for name in thing)


def sorts_so(rows):
    for row in rows:
        if type(row) is not tuple or len(row) != 3 or not is_name(row[0]):
            return False
        if not names_so(row[1]) or not names_so(row[2]):
            return False
        if len(set(row[1] + row[2])) < len(row[1] + row[2]):
            return False
    return len(rows) <= 4 and len(set(row[0] for row in rows)) == len(rows)


def makings_so(rows, sorts):
    names = [row[0] for row in sorts]
    for row in rows:
        if type(row) is not tuple or len(row) != 3 or not is_name(row[0]) or not names_so(row[2]):
            return False
        if row[1] not in names or any(part not in names for part in row[2]):
            return False
    return len(rows) <= 8 and len(set(row[0] for row in rows)) == len(rows)


def kept_so(thing, worths):
    if type(thing) is not tuple or len(thing) != 2 or thing[0] != "kept":
        return False
    return is_name(thing[1]) and thing[1] not in worths


def rules_so(rows, sorts, makings, cap):
    seen = []
    kept = {row[0]: set() for row in makings}
    for row in rows:
        if type(row) is not tuple or len(row) != 4 or row[0] not in [name for name, sort, parts in makings]:
            return False
        making, target, op, terms = row
        worths = [downs + ups for sort, downs, ups in sorts if sort == places(makings, making)[0]][0]
        if type(op) is not str or op not in (LET if cap else PARTS) or type(terms) is not tuple:
            return False
        if len(terms) != PARTS[op]:
            return False
        # By what is shown 1 and True, and a list and a tuple, are unlike.
        if repr(target) not in map(repr, targets(sorts, makings, making)) and not kept_so(target, worths):
            return False
        shown = [repr(term) for term in operands(sorts, makings, making)]
        for term in terms:
            number = type(term) is tuple and len(term) == 2 and term[0] == "number"
            if number and not (type(term[1]) is int and 0 <= term[1] <= TOP):
                return False
            if not number and repr(term) not in shown and not kept_so(term, worths):
                return False
        kept[making] |= {term[1] for term in (target, *terms) if term[0] == "kept"}
        seen.append((making, target))
    return len(set(seen)) == len(seen) and all(len(names) <= 2 for names in kept.values())


def first_bad(sorts, makings, rules, cap):
    """(part, row) as BadGrammar must bear it; None where all can stand."""
    if type(cap) is not int or not 0 <= cap <= 9:
        return ("cap", 0)
    checks = [
        ("sorts", sorts, sorts_so),
        ("makings", makings, lambda rows: makings_so(rows, sorts)),
        ("rules", rules, lambda rows: rules_so(rows, sorts, makings, cap)),
    ]
    for part, rows, so in checks:
        if type(rows) is not list:
            return (part, 0)
        if not so(rows):
            # What stands behind a row mends nothing, so the first one is sought by halves.
            return (part, bisect.bisect_left(range(len(rows)), True, key=lambda row: not so(rows[:row + 1])))
    return None


# --- spots, as the document tells of them ---


def kept_names(rules, making):
    terms = [term for whose, target, op, terms in rules if whose == making for term in (target, *terms)]
    return sorted({term[1] for term in terms if term[0] == "kept"})


def spots_due(rows, tree):
    sorts, makings, rules, cap = rows
    worths = {sort: downs + ups for sort, downs, ups in sorts}
    found = []
    for path, node in walk(tree):
        names = worths[places(makings, node[0])[0]]
        found += [(path, name) for name in (*names, *kept_names(rules, node[0]))]
    return found


def spot_due(path, term):
    """The spot that a target or an operand of a rule of the node there names; None where it names none."""
    if term[0] == "kept":
        return (path, term[1])
    if term[0] == "at":
        return (path if term[1] == 0 else (*path, term[1]), term[2])
    return None


def rules_due(rows, tree):
    """By each spot that has a rule the pair (path, rule)."""
    found = {}
    for path, node in walk(tree):
        for rule in rows[2]:
            if rule[0] == node[0]:
                found[spot_due(path, rule[1])] = (path, rule)
    return found


def needs_due(rows, tree):
    """By each spot the list of those that it needs."""
    rules = rules_due(rows, tree)
    found = {}
    for spot in spots_due(rows, tree):
        path, rule = rules.get(spot, ((), (None, None, None, ())))
        named = [spot_due(path, term) for term in rule[3]]
        found[spot] = [need for need in named if need is not None]
    return found


def reached(needs, start):
    """All to which one comes from the start by one need or more."""
    found, waiting = set(), list(needs[start])
    while waiting:
        spot = waiting.pop()
        if spot not in found:
            found.add(spot)
            waiting += needs[spot]
    return found


def no_spots(rng, spots):
    """Things that are no spots of a tree, though some are nearly."""
    shown = {repr(spot) for spot in spots}
    found = list(THINGS)
    for thing in THINGS:
        found += [(thing, rng.choice(spots)[1] if spots else "a"), (rng.choice(spots)[0] if spots else (), thing)]
    for path, name in rng.sample(spots, min(6, len(spots))):
        found += [
            [path, name], (list(path), name), (path, [name]), (path, name, 0), (path,), (name, path), (path + (1,), name),
            (path + (0,), name), (path + (3,), name), (path[:-1], name), (path, name + "a"), (path, name.upper()),
            (path, None), (path, ("at", 0, name)), (path[:-1] + (True,), name), (path + (True,), name), ((path, name),),
            (path[:-1] + (-1,), name), (path[::-1], name), (tuple(map(bool, path)), name), ("".join(map(str, path)), name),
        ]
    return [thing for thing in found if repr(thing) not in shown]


# --- worths, graphs and refusals, as the document tells of them ---


LETS = (LET_SORTS, LET_MAKINGS, LET_RULES, 0)
BOUND = 10 ** 6
OPS = {
    "copy": lambda a: a, "plus": lambda a, b: (a + b) % BOUND, "less": lambda a, b: (a - b) % BOUND,
    "times": lambda a, b: a * b % BOUND, "over": lambda a, b: a // b if b else None,
    "rest": lambda a, b: a % b if b else None, "least": min, "most": max,
    "same": lambda a, b: int(a == b), "under": lambda a, b: int(a < b), "pick": lambda a, b, c: b if a else c,
}


def made(rows):
    sorts, makings, rules, cap = rows
    return Grammar(sorts, makings, rules, cap=cap)


def worths_of(rows, making):
    """The downs and ups of a making's sort."""
    sort = places(rows[1], making)[0]
    return [(downs, ups) for name, downs, ups in rows[0] if name == sort][0]


class Due:
    """What the document tells of a tree's spots, by its words."""

    def __init__(self, rows, tree, given):
        self.cap = rows[3]
        self.spots = spots_due(rows, tree)
        self.rules = rules_due(rows, tree)
        self.needs = needs_due(rows, tree)
        self.own = {path: node[1] for path, node in walk(tree)}
        self.given = {((), down): number for down, number in given}
        self.reach = {spot: reached(self.needs, spot) for spot in self.spots}
        of_ring = {spot for spot in self.spots if spot in self.reach[spot]}
        self.hang = {spot for spot in self.spots if spot in of_ring or self.reach[spot] & of_ring}
        self.known = {}
        for spot in self.spots:
            if spot not in self.hang:
                self.fill(spot)

    def fill(self, start):
        waiting = [start]
        while waiting:
            ahead = [need for need in self.needs[waiting[-1]] if need not in self.known]
            if ahead:
                waiting.append(ahead[0])
            else:
                spot = waiting.pop()
                self.known[spot] = self.worth(spot)

    def capped(self, number):
        return min(number, self.cap) if self.cap and number is not None else number

    def worth(self, spot):
        if spot in self.given:
            return self.capped(self.given[spot])
        if spot not in self.rules:
            return None
        path, (making, target, op, terms) = self.rules[spot]
        numbers = []
        needed = iter(self.needs[spot])
        for term in terms:
            if term[0] in ("at", "kept"):
                numbers.append(self.known[next(needed)])
            else:
                numbers.append(self.own[path] if term[0] == "own" else term[1])
        if None in numbers:
            return None
        return self.capped(OPS[op](*map(self.capped, numbers)))

    def ring_from(self, start):
        been = set()

        def gone(way):
            been.add(way[-1])
            for need in self.needs[way[-1]]:
                if need in way:
                    return way[way.index(need):]
                if need not in been:
                    found = gone(way + [need])
                    if found:
                        return found
            return None

        return gone([start])

    def road(self, spot):
        road = [spot]
        while True:
            lacking = [need for need in self.needs[road[-1]] if self.known[need] is None]
            if not lacking:
                return road
            road.append(lacking[0])

    def for_it(self, spot, kept):
        """The spots with a rule that are to be reckoned for one."""
        return [each for each in {spot} | self.reach[spot] if each in self.rules and each not in kept]


def cases(seed, many, nodes=20, **told):
    """(rows, tree, given) by chance."""
    rng = random.Random(seed)
    for rows in grammars_by_chance(seed + 1, many, **told):
        for tree in trees_by_chance(rng, rows, 2, rng.choice([3, 8, nodes])):
            downs, ups = worths_of(rows, tree[0])
            given = [(down, number_by_chance(rng)) for down in downs if rng.random() < 0.8]
            rng.shuffle(given)
            yield rows, tree, given


def given_so(downs, given):
    """Whether a thing can be given to a tree that has these downs."""
    if type(given) is not list:
        return type(given) is tuple and given == ()
    seen = []
    for pair in given:
        if type(pair) is not tuple or len(pair) != 2 or type(pair[0]) is not str or pair[0] not in downs:
            return False
        if type(pair[1]) is not int or not 0 <= pair[1] <= TOP:
            return False
        seen.append(pair[0])
    return len(set(seen)) == len(seen)


def exchanged(tree, path, part):
    """The tree with another part there, None of what is no node."""
    if path == ():
        return part
    making, own, parts = tree
    inner = list(parts)
    inner[path[0] - 1] = exchanged(inner[path[0] - 1], path[1:], part)
    return (making, own, tuple(inner))


def anew_due(ahead, now, put):
    """How many rules a deed reckons, by the words of [15]."""
    many = 0
    for spot, (path, rule) in now.rules.items():
        was_put = put is not None and path[:len(put)] == put
        other_own = not was_put and ("own",) in rule[3] and now.own[path] != ahead.own[path]
        other_need = not was_put and any(now.known[need] != ahead.known[need] for need in now.needs[spot])
        many += was_put or other_own or other_need
    return many


def sort_due(makings, thing):
    """The sort of a thing that is a tree; None where it's none."""
    if type(thing) is not tuple or len(thing) != 3 or type(thing[0]) is not str:
        return None
    forms = [(sort, parts) for making, sort, parts in makings if making == thing[0]]
    if not forms or type(thing[1]) is not int or not 0 <= thing[1] <= TOP or type(thing[2]) is not tuple:
        return None
    sorts = tuple(sort_due(makings, part) for part in thing[2])
    return forms[0][0] if sorts == forms[0][1] else None


def graph_due(rows, tree):
    needs = needs_due(rows, tree)
    downs, ups = worths_of(rows, tree[0])
    return tuple(sorted((down, up) for down in downs for up in ups if ((), down) in reached(needs, ((), up))))


def has_ring(rows, tree):
    needs = needs_due(rows, tree)
    return any(spot in reached(needs, spot) for spot in needs)


def leasts_due(rows):
    """By (sort, graph) the fewest nodes and the least tree, made of lesser ones until none is less."""
    found, grown = {}, True
    while grown:
        grown = False
        for making, sort, parts in rows[1]:
            ways = [[tree for (whose, graph), (many, tree) in found.items() if whose == part] for part in parts]
            for inner in list(itertools.product(*ways)):
                tree = (making, 0, inner)
                pair = (sort, graph_due(rows, tree))
                if pair not in found or (size_of(tree), tree) < found[pair]:
                    found[pair] = (size_of(tree), tree)
                    grown = True
    return found


def is_fit(rows):
    """Whether graphs_of and what rests on it may be asked of a grammar."""
    return all(many <= 60 for many, tree in least_by_graph(made(rows)).values())


def fit_grammars(seed, many, **told):
    return [rows for rows in grammars_by_chance(seed, many, **told) if is_fit(rows)]


def small_trees(makings, sort, most):
    """All trees of a sort whose nodes bear 0, of growing numbers of nodes, not too many in all."""
    found, known = [], {}
    for nodes in range(1, most + 1):
        trees = all_trees(makings, sort, nodes, known)
        if len(found) + len(trees) > 600:
            return nodes - 1, found
        found += trees
    return most, found


class PlansDue:
    """Rows of orders made ahead, by the words of the document; choose tells which of those that may come next is taken."""

    def __init__(self, rows):
        self.rows = rows
        self.leasts = leasts_due(rows)
        self.worths = {sort: (downs, ups) for sort, downs, ups in rows[0]}
        self.forms = {making: (sort, parts) for making, sort, parts in rows[1]}
        self.graphs = {sort: [graph for whose, graph in self.leasts if whose == sort] for sort in self.worths}
        self.ways = {pair: [] for pair in self.leasts}
        for making, (sort, parts) in self.forms.items():
            for graphs in itertools.product(*[self.graphs[part] for part in parts]):
                inner = tuple(self.leasts[(part, graph)][1] for part, graph in zip(parts, graphs))
                self.ways[(sort, graph_due(rows, (making, 0, inner)))].append((making, graphs))

    def order_by(self, sort, graph, choose=min):
        downs, ups = self.worths[sort]
        order = []
        while len(order) < len(downs + ups):
            behind = {name: {down for down, up in graph if up == name} for name in downs + ups if name not in order}
            order.append(choose(sorted(name for name in behind if behind[name] <= set(order))))
        return tuple(order)

    def all_steps(self, making):
        sort, parts = self.forms[making]
        found = [("kept", name) for name in kept_names(self.rows[2], making)]
        for place, part in enumerate((sort, *parts)):
            found += [("at", place, name) for name in sum(self.worths[part], ())]
        return found

    def comes_late(self, making, graphs, order, step, ahead):
        """Whether a step may not stand behind just these."""
        rules = [rule for rule in self.rows[2] if rule[:2] == (making, step)]
        needs = [term for rule in rules for term in rule[3] if term[0] in ("at", "kept")]
        if step[0] == "at" and step[1] == 0:
            needs += [("at", 0, name) for name in order[:order.index(step[2])]]
        elif step[0] == "at":
            needs += [("at", step[1], down) for down, up in graphs[step[1] - 1] if up == step[2]]
        return any(need not in ahead for need in needs)

    def steps_by(self, making, graphs, order, choose=min):
        steps, left = [], self.all_steps(making)
        while left:
            step = choose(sorted(step for step in left if not self.comes_late(making, graphs, order, step, steps)))
            steps.append(step)
            left.remove(step)
        return tuple(steps)

    def part_orders(self, row):
        making, graphs, order, steps = row
        for place, (part, graph) in enumerate(zip(self.forms[making][1], graphs), 1):
            yield part, graph, tuple(step[2] for step in steps if step[0] == "at" and step[1] == place)

    def closed(self, starts, choose=min):
        """The rows of all (sort, graph, order) to start with, and all behind them."""
        found, waiting, been = [], list(starts), set()
        while waiting:
            due = waiting.pop()
            if due in been:
                continue
            been.add(due)
            for making, graphs in self.ways[due[:2]]:
                found.append((making, graphs, due[2], self.steps_by(making, graphs, due[2], choose)))
                waiting += self.part_orders(found[-1])
        return sorted(found)

    def roots(self, choose=min):
        return [(sort, graph, self.order_by(sort, graph, choose)) for sort, graph in self.leasts]

    def is_row(self, row):
        if type(row) is not tuple or len(row) != 4 or type(row[0]) is not str or row[0] not in self.forms:
            return False
        making, graphs, order, steps = row
        sort, parts = self.forms[making]
        if type(graphs) is not tuple or type(order) is not tuple or type(steps) is not tuple or len(graphs) != len(parts):
            return False
        # By what is shown 1 and True, and a list and a tuple, are unlike.
        if any(repr(graph) not in map(repr, self.graphs[part]) for graph, part in zip(graphs, parts)):
            return False
        if sorted(map(repr, order)) != sorted(map(repr, sum(self.worths[sort], ()))):
            return False
        if sorted(map(repr, steps)) != sorted(map(repr, self.all_steps(making))):
            return False
        return not any(self.comes_late(making, graphs, order, step, steps[:at]) for at, step in enumerate(steps))

    def so(self, thing):
        """Whether a thing shows plans."""
        if type(thing) is not list or not all(self.is_row(row) for row in thing):
            return False
        keys = {row[:3] for row in thing}
        if len(keys) < len(thing):
            return False

        def stand(sort, graph, order):
            return all((*way, order) in keys for way in self.ways[(sort, graph)])

        for sort, graph in self.leasts:
            if not any(stand(sort, graph, order) for order in itertools.permutations(sum(self.worths[sort], ()))):
                return False
        return all(stand(*due) for row in thing for due in self.part_orders(row))


def rows_of(grammar):
    return (grammar.sorts(), grammar.makings(), grammar.rules(), grammar.cap())


class ShopDue:
    """What a Workshop must tell, by the words of the document, of trees that are reckoned anew each time."""

    def __init__(self, limit=400):
        self.limit = limit
        # Pairs of grammars, rows by name, and of trees, (rows, tree, given, Due) by name.
        self.states = [({}, {})]
        self.total = 0
        self.log = []
        self.depth = 0

    def grammars(self):
        return self.states[-1][0]

    def trees(self):
        return self.states[-1][1]

    def free(self, name):
        if name in self.grammars() or name in self.trees():
            raise Taken(name)

    def called(self, name):
        if name not in self.trees():
            raise NoName(name)
        return self.trees()[name]

    def stand(self, grammars, trees, many):
        self.states.append((grammars, trees))
        self.total += many
        return many

    def node_at(self, tree, path):
        found = {repr(each): node for each, node in walk(tree)}
        if repr(path) not in found:
            raise NoNode(path)
        return found[repr(path)]

    def lay(self, name, text):
        self.free(name)
        return self.stand({**self.grammars(), name: rows_of(grammar_in(text))}, self.trees(), 0)

    def plant(self, name, grammar, text, given):
        self.free(name)
        if grammar not in self.grammars():
            raise NoName(grammar)
        rows = self.grammars()[grammar]
        tree = tree_in(text)
        if sort_due(rows[1], tree) is None or size_of(tree) > 60:
            raise NoTree(text)
        if not given_so(worths_of(rows, tree[0])[0], given):
            raise NoGiven(given)
        return self.grown(name, rows, tree, dict(given), None, None)

    def grown(self, name, rows, tree, given, ahead, put):
        """The end of a deed that reckons."""
        due = Due(rows, tree, list(given.items()))
        hanging = [spot for spot in due.spots if spot in due.hang]
        if hanging:
            raise Ring(due.ring_from(hanging[0]))
        many = len(due.rules) if ahead is None else anew_due(ahead, due, put)
        if many > self.limit:
            raise TooMuch(many)
        return self.stand(self.grammars(), {**self.trees(), name: (rows, tree, given, due)}, many)

    def put(self, name, path, text):
        rows, tree, given, due = self.called(name)
        node = self.node_at(tree, path)
        part = tree_in(text)
        if sort_due(rows[1], part) != places(rows[1], node[0])[0]:
            raise NoTree(text)
        whole = exchanged(tree, path, part)
        if size_of(whole) > 60 or max(len(each) for each, node in walk(whole)) > 30:
            raise NoTree(part)
        return self.grown(name, rows, whole, given, due, path)

    def mark(self, name, path, own):
        rows, tree, given, due = self.called(name)
        making, number, parts = self.node_at(tree, path)
        if type(own) is not int or not 0 <= own <= TOP:
            raise NoTree(own)
        return self.grown(name, rows, exchanged(tree, path, (making, own, parts)), given, due, None)

    def give(self, name, down, number):
        rows, tree, given, due = self.called(name)
        if not given_so(worths_of(rows, tree[0])[0], [(down, 0 if number is None else number)]):
            raise NoGiven((down, number))
        kept = {each: given[each] for each in given if each != down}
        return self.grown(name, rows, tree, kept if number is None else {**kept, down: number}, due, None)

    def uproot(self, name):
        self.called(name)
        return self.stand(self.grammars(), {each: tree for each, tree in self.trees().items() if each != name}, 0)

    def undo(self):
        if len(self.states) == 1:
            return False
        self.states.pop()
        return True

    def run(self, steps, whole):
        kept = list(self.states), self.total
        self.depth += 1
        self.log.append(("begin", self.depth))
        told = []
        try:
            for word, *handed in steps:
                told.append(getattr(self, word)(*handed))
        except Exception:
            if whole:
                self.states, self.total = kept
            raise
        finally:
            self.log.append(("end", self.depth))
            self.depth -= 1
        return told


class Asking(unittest.TestCase):
    def refused(self, kind, field, due, ask, *told, **more):
        with self.assertRaises(kind) as caught:
            ask(*told, **more)
        self.assertIs(type(caught.exception), kind)
        same(self, getattr(caught.exception, field), due)
