"""What is promised over the whole program."""

import importlib
import inspect
import random
import unittest

from helper import (
    LET_TEXT, LETS, WORDS, Asking, Due, PlansDue, cases, fit_grammars, grammars_by_chance, made, number_by_chance,
    operands, places, ringless, same, shuffled, size_of, targets, tree_by_chance, trees_by_chance, walk, worths_of,
)
from threereckons.demand import Demand, by_demand
from threereckons.desk import answers
from threereckons.errors import (
    BadGrammar, BadRow, BadText, Clash, Lacks, NoCap, NoGiven, NoName, NoNode, NoOp, NoRow, NoSpot, NoTree, NotLet, Ring,
    Ringed, Taken, TooMuch,
)
from threereckons.grammar import Grammar
from threereckons.gramtext import grammar_in
from threereckons.graphs import graph_of, graphs_of
from threereckons.joining import joined
from threereckons.least import least_tree
from threereckons.limits import LIMIT, ROUNDS
from threereckons.needs import needs_of
from threereckons.ops import parts_of, reckoned
from threereckons.plancheck import shows_plans
from threereckons.plans import Plans
from threereckons.resting import rest_of, rests
from threereckons.rings import ring_ahead, shows_ring
from threereckons.trees import part_at, put_at
from threereckons.treetext import tree_in, tree_of, tree_text
from threereckons.upkeep import Upkeep
from threereckons.workshop import Workshop

# As DOC.md writes them: what stands behind a star is handed in by its name alone.
FUNCTIONS = {
    "ops": ["is_op(thing)", "parts_of(op)", "op_let(op, *, cap=0)", "reckoned(op, numbers, *, cap=0)"],
    "gramtext": ["grammar_in(text)"],
    "trees": ["is_tree(grammar, thing, *, sort=None)", "nodes_of(tree)", "part_at(tree, path)", "put_at(tree, path, part)",
              "sort_of(grammar, tree)"],
    "least": ["least_tree(grammar, sort)"],
    "treetext": ["tree_text(tree)", "tree_in(text)", "tree_of(grammar, text, *, sort=None)"],
    "needs": ["spots_of(grammar, tree)", "rule_of(grammar, tree, spot)", "needs_of(grammar, tree, spot)"],
    "demand": ["by_demand(grammar, tree, *, given=())"],
    "graphs": ["graph_of(grammar, tree)", "graphs_of(grammar, sort)", "graph_by(grammar, making, graphs)"],
    "rings": ["ring_ahead(grammar)", "shows_ring(grammar, thing)"],
    "plancheck": ["shows_plans(grammar, thing)"],
    "resting": [f"rest_of(grammar, tree, *, given=(), rounds={ROUNDS})", "rests(grammar, tree, thing, *, given=())"],
    "joining": ["clashes(one, other)", "joined(one, other)"],
    "desk": [f"answers(text, *, limit={LIMIT})"],
}
CLASSES = {
    ("grammar", "Grammar"): [
        "__init__(self, sorts, makings, rules, *, cap=0)", "sorts(self)", "makings(self)", "rules(self)", "cap(self)", "worths_of(self, sort)",
        "making_of(self, making)", "rule_for(self, making, target)", "kept_of(self, making)", "__len__(self)", "__eq__(self, other)",
        "__str__(self)", "__repr__(self)",
    ],
    ("demand", "Demand"): [
        "__init__(self, grammar, tree, *, given=())", f"worth(self, path, name, *, limit={LIMIT})", "kept(self)", "reckoned(self)", "forget(self)",
        "rings(self)",
    ],
    ("plans", "Plans"): [
        "__init__(self, grammar)", "rows(self)", "__len__(self)", "__eq__(self, other)", "steps_for(self, making, graphs, order)",
        "worths(self, tree, *, given=())",
    ],
    ("upkeep", "Upkeep"): [
        "__init__(self, grammar, tree, *, given=())", "put(self, path, part)", "mark(self, path, own)", "give(self, down, number)", "undo(self)",
        "deeds(self)", "reckoned(self)", "worth(self, path, name)", "worths(self)", "road(self, path, name)", "tree(self)", "given(self)",
        "twin(self)",
    ],
    ("workshop", "Workshop"): [
        f"__init__(self, *, limit={LIMIT})", "lay(self, name, text)", "plant(self, name, grammar, text, *, given=())",
        "put(self, name, path, text)", "mark(self, name, path, own)", "give(self, name, down, number)", "uproot(self, name)", "undo(self)",
        "names(self)", "ask(self, name, path, worth)", "tree(self, name)", "worths(self, name)", "road(self, name, path, worth)",
        "grammar(self, name)", f"rest(self, name, *, rounds={ROUNDS})", "deeds(self)", "total(self)", "run(self, steps, *, whole=True)",
        "depth(self)", "log(self)",
    ],
}


class Interface(unittest.TestCase):
    def test_functions(self):
        for file, written in FUNCTIONS.items():
            module = importlib.import_module(f"threereckons.{file}")
            for each in written:
                function = getattr(module, each.partition("(")[0])
                self.assertTrue(inspect.isfunction(function))
                self.assertEqual(function.__name__ + str(inspect.signature(function)), each)

    def test_classes(self):
        for (file, name), written in CLASSES.items():
            kind = getattr(importlib.import_module(f"threereckons.{file}"), name)
            for each in written:
                # In the class itself, not only in a base class.
                method = vars(kind)[each.partition("(")[0]]
                self.assertEqual(method.__name__ + str(inspect.signature(method)), each)

    def test_limits(self):
        self.assertEqual((LIMIT, ROUNDS), (400, 120))


# --- the three ways ---


def great_grammar(rng, cap=0):
    """Four sorts of three worths, eight makings, a rule for each target, without rings."""
    sorts = [("a", ("d",), ("u", "v")), ("b", ("d", "e"), ("u",)), ("c", ("x",), ("y", "z")), ("f", ("e", "g"), ("h",))]
    makings = [("la", "a", ()), ("lb", "b", ()), ("lc", "c", ()), ("lf", "f", ()),
               ("pa", "a", ("c", "b")), ("pb", "b", ("f", "c")), ("pc", "c", ("a", "f")), ("pf", "f", ("a",))]
    rules = []
    for making, sort, parts in makings:
        kept = ["j", "k"]
        terms = operands(sorts, makings, making, kept)
        for target in targets(sorts, makings, making, kept):
            op, many = rng.choice([("copy", 1), ("plus", 2), ("most", 2), ("least", 2)] + ([] if cap else [("times", 2), ("pick", 3), ("over", 2)]))
            fitting = ringless(target, terms)
            rules.append((making, target, op, tuple(rng.choice(fitting) for step in range(many))))
    return (sorts, makings, rules, cap)


def great_tree(rng, rows):
    """Sixty nodes, and a path of thirty places by last parts."""
    forms = {making: parts for making, sort, parts in rows[1]}
    leaf = {sort: making for making, sort, parts in rows[1] if not parts}
    inner = {sort: making for making, sort, parts in rows[1] if parts}

    def grown(sort, left):
        if left == 0:
            return (leaf[sort], number_by_chance(rng), ())
        parts = forms[inner[sort]]
        first = [(leaf[part], number_by_chance(rng), ()) for part in parts[:-1]]
        return (inner[sort], number_by_chance(rng), (*first, grown(parts[-1], left - 1)))

    tree = grown("a", 30)
    while size_of(tree) < 60:
        fitting = [path for path, node in walk(tree) if not node[2] and len(path) < 28]
        path = rng.choice(fitting)
        sort = places(rows[1], part_at(tree, path)[0])[0]
        room = 60 - size_of(tree)
        parts = forms[inner[sort]]
        if len(parts) <= room:
            tree = put_at(tree, path, (inner[sort], number_by_chance(rng), tuple((leaf[part], 1, ()) for part in parts)))
        elif room == 1:
            fs = [each for each in fitting if part_at(tree, each)[0] == "lf"]
            tree = put_at(tree, rng.choice(fs), ("pf", 2, (("la", 3, ()),)))
    return tree


class ThreeWays(Asking):
    def three(self, rows, tree, given):
        """On demand, by orders, kept up: the same worths, and the same that lack; None where orders can't be made."""
        grammar = made(rows)
        told = by_demand(grammar, tree, given=given)
        upkeep = Upkeep(grammar, tree, given=given)
        same(self, upkeep.worths(), told)
        demand = Demand(grammar, tree, given=given)
        for path, name, number in told:
            if number is None:
                with self.assertRaises(Lacks) as caught:
                    demand.worth(path, name)
                self.road(grammar, tree, caught.exception.spots, told, given)
                same(self, upkeep.road(path, name), caught.exception.spots)
            else:
                same(self, demand.worth(path, name), number)
                same(self, upkeep.road(path, name), [])
        return told

    def road(self, grammar, tree, road, told, given):
        """From one that lacks to one that lacks by itself, each the first that lacks of those that are needed."""
        known = {row[:2]: row[2] for row in told}
        for spot, after in zip(road, road[1:]):
            lacking = [need for need in needs_of(grammar, tree, spot) if known[need] is None]
            same(self, after, lacking[0])
        self.assertEqual([need for need in needs_of(grammar, tree, road[-1]) if known[need] is None], [])

    def test_a_great_grammar(self):
        for seed in range(6):
            rng = random.Random(310 + seed)
            rows = great_grammar(rng, cap=rng.choice([0, 0, 7]))
            grammar = made(rows)
            self.assertEqual((len(grammar.sorts()), len(grammar)), (4, 8))
            tree = great_tree(rng, rows)
            self.assertEqual((size_of(tree), max(len(path) for path, node in walk(tree))), (60, 30))
            plans = Plans(grammar)
            self.assertIs(shows_plans(grammar, plans.rows()), True)
            for given in ([], [("d", 5)]):
                told = self.three(rows, tree, given)
                same(self, plans.worths(tree, given=given), told)
                due = Due(rows, tree, given)
                same(self, told, [(*spot, due.known[spot]) for spot in due.spots])
            same(self, tree_of(grammar, tree_text(tree)), tree)
            self.assertTrue(grammar_in(str(grammar)) == grammar)
            upkeep = Upkeep(grammar, tree)
            for step in range(10):
                path, node = rng.choice(walk(upkeep.tree()))
                upkeep.mark(path, number_by_chance(rng))
                path, node = rng.choice(walk(upkeep.tree()))
                upkeep.put(path, (node[0], number_by_chance(rng), node[2]))
                same(self, upkeep.worths(), by_demand(grammar, upkeep.tree()))
                same(self, upkeep.worths(), plans.worths(upkeep.tree()))

    def test_by_chance(self):
        ordered = 0
        for rows, tree, given in cases(320, 150, nodes=14):
            grammar = made(rows)
            if Demand(grammar, tree, given=given).rings():
                for ask in (by_demand, Upkeep):
                    with self.assertRaises(Ring):
                        ask(grammar, tree, given=given)
                continue
            told = self.three(rows, tree, given)
            if all(size_of(least) <= 60 for sort, downs, ups in rows[0] for graph, least in graphs_of(grammar, sort)):
                found = ring_ahead(grammar)
                if found is None:
                    ordered += 1
                    same(self, Plans(grammar).worths(tree, given=given), told)
                else:
                    self.assertTrue(shows_ring(grammar, found))
            if rows[3] and size_of(tree) <= 15:
                same(self, [row[:3] for row in rest_of(grammar, tree, given=given)], told)
                self.assertTrue(rests(grammar, tree, told, given=given))
        self.assertGreater(ordered, 60)

    def test_either_orders_or_a_ring(self):
        both = [0, 0]
        for rows in fit_grammars(321, 200):
            grammar = made(rows)
            found = ring_ahead(grammar)
            both[found is None] += 1
            if found is None:
                self.assertTrue(shows_plans(grammar, Plans(grammar).rows()))
            else:
                with self.assertRaises(Ringed):
                    Plans(grammar)
                self.assertFalse(shows_plans(grammar, []))
        self.assertGreater(min(both), 40)


# --- names and rows otherwise ---


def rows_renamed(rows, names):
    """The grammar with all its NAMEs called otherwise."""
    def term(one):
        if one[0] == "at":
            return ("at", one[1], names[one[2]])
        return ("kept", names[one[1]]) if one[0] == "kept" else one

    def all_of(some):
        return tuple(names[name] for name in some)

    sorts = [(names[sort], all_of(downs), all_of(ups)) for sort, downs, ups in rows[0]]
    makings = [(names[making], names[sort], all_of(parts)) for making, sort, parts in rows[1]]
    rules = [(names[making], term(target), op, tuple(map(term, terms))) for making, target, op, terms in rows[2]]
    return (sorts, makings, rules, rows[3])


def tree_renamed(tree, names):
    return (names[tree[0]], tree[1], tuple(tree_renamed(part, names) for part in tree[2]))


class Otherwise(Asking):
    def names(self, rng):
        fresh = ["".join(rng.choices("abcdefghijklmnopqrstuvwxyz", k=rng.randint(2, 6))) for step in range(200)]
        fresh = [name for name in dict.fromkeys(fresh) if name != "own"]
        return dict(zip(sorted({*WORDS, "exp", "top", "let", "use", "root", "out", "size", "extra"}), fresh))

    def test_names_called_otherwise(self):
        rng = random.Random(330)
        compared = 0
        for rows in [LETS, *grammars_by_chance(331, 120)]:
            names = self.names(rng)
            other = rows_renamed(rows, names)
            one, two = made(rows), made(other)
            for tree in trees_by_chance(rng, rows, 2, 12):
                there = tree_renamed(tree, names)
                given = [(down, number_by_chance(rng)) for down in worths_of(rows, tree[0])[0]]
                handed = [(names[down], number) for down, number in given]
                same(self, tree_in(tree_text(there)), there)
                self.assertEqual({(names[down], names[up]) for down, up in graph_of(one, tree)}, set(graph_of(two, there)))
                if Demand(one, tree, given=given).rings():
                    self.assertTrue(Demand(two, there, given=handed).rings())
                    continue
                told = {(path, names[name], number) for path, name, number in by_demand(one, tree, given=given)}
                self.assertEqual(told, set(by_demand(two, there, given=handed)))
                compared += len(told)
                path, node = rng.choice(walk(tree))
                own = number_by_chance(rng)
                self.assertEqual(Upkeep(one, tree, given=given).mark(path, own), Upkeep(two, there, given=handed).mark(path, own))
                if rows[3] and size_of(tree) <= 15:
                    rest = {(path, names[name], number, since) for path, name, number, since in rest_of(one, tree, given=given)}
                    self.assertEqual(rest, set(rest_of(two, there, given=handed)))
            for sort, downs, ups in rows[0]:
                first, second = least_tree(one, sort), least_tree(two, names[sort])
                self.assertEqual(first and size_of(first), second and size_of(second))
        self.assertGreater(compared, 800)

    def test_rings_and_orders_by_other_names(self):
        rng = random.Random(332)
        for rows in fit_grammars(333, 80):
            names = self.names(rng)
            one, two = ring_ahead(made(rows)), ring_ahead(made(rows_renamed(rows, names)))
            self.assertEqual(one and size_of(one[0]), two and size_of(two[0]))
            if one is None:
                other = rows_renamed(rows, names)
                due = PlansDue(other)
                same(self, Plans(made(other)).rows(), due.closed(due.roots()))

    def test_rows_in_other_orders(self):
        rng = random.Random(334)
        for rows in fit_grammars(335, 100):
            one, two = made(rows), made(shuffled(rng, rows))
            self.assertTrue(one == two)
            same(self, ring_tree(two), ring_tree(one))
            if ring_ahead(one) is None:
                self.assertTrue(Plans(one) == Plans(two))
                self.assertTrue(shows_plans(two, Plans(one).rows()))
            self.assertTrue(joined(one, two) == one)
            for sort, downs, ups in rows[0]:
                same(self, graphs_of(two, sort), graphs_of(one, sort))
                same(self, least_tree(two, sort), least_tree(one, sort))
            for tree in trees_by_chance(rng, rows, 2, 10):
                if not Demand(one, tree).rings():
                    same(self, by_demand(two, tree), by_demand(one, tree))
                    same(self, Upkeep(two, tree).worths(), Upkeep(one, tree).worths())


def ring_tree(grammar):
    found = ring_ahead(grammar)
    return found and found[0]


# --- every kind of refusal ---


class Refusals(Asking):
    def test_all_as_ahead(self):
        """Each of the eighteen kinds refused; behind each one all that stands is asked again."""
        grammar = made(LETS)
        ringed = grammar_in("sort s d / u\nmake m s s\nmake z s\nrule m 1.d copy 1.u\nrule z 0.u copy 0.d")
        tree = ("let", 1, (("use", 0, ()), ("leaf", 2, ())))
        given = [("env", 6)]
        demand, upkeep, plans, shop = Demand(grammar, tree, given=given), Upkeep(grammar, tree, given=given), Plans(grammar), Workshop(limit=9)
        demand.worth((), "val")
        upkeep.mark((2,), 5)
        shop.lay("g", LET_TEXT)
        shop.plant("t", "g", "let(use,leaf)", given=given)
        shop.run([("mark", "t", (2,), 3), ("undo",)])

        def all_told():
            return repr([
                demand.kept(), demand.reckoned(), demand.rings(), upkeep.worths(), upkeep.tree(), upkeep.given(), upkeep.deeds(), upkeep.reckoned(),
                plans.rows(), len(plans), shop.names(), shop.tree("t"), shop.worths("t"), shop.deeds(), shop.total(), shop.log(), shop.depth(),
                str(grammar), grammar.sorts(), grammar.makings(), grammar.rules(), str(shop.grammar("g")), tree, given,
            ])

        rows = [
            (BadGrammar, lambda: Grammar([("s", (), ())], [("m", "x", ())], [])), (BadRow, lambda: grammar_in("x")), (BadRow, lambda: shop.lay("h", "x")),
            (BadRow, lambda: answers("x")), (BadText, lambda: tree_in("(")), (BadText, lambda: shop.put("t", (), "(")),
            (NoTree, lambda: Demand(grammar, None)), (NoTree, lambda: upkeep.put((), None)), (NoTree, lambda: upkeep.mark((), -1)),
            (NoTree, lambda: plans.worths(None)), (NoTree, lambda: shop.plant("h", "g", "x")), (NoGiven, lambda: upkeep.give("val", 1)),
            (NoGiven, lambda: plans.worths(tree, given=7)), (NoGiven, lambda: shop.give("t", "x", 1)), (NotLet, lambda: reckoned("times", [1, 2], cap=3)),
            (NoCap, lambda: rest_of(grammar, tree)), (NoCap, lambda: shop.rest("t")), (NoName, lambda: grammar.worths_of("x")),
            (NoName, lambda: shop.uproot("g")), (NoName, lambda: shop.run([("uproot", "t"), ("uproot", "t")])), (NoOp, lambda: parts_of("x")),
            (NoRow, lambda: plans.steps_for("x", (), ())), (NoSpot, lambda: demand.worth((), "x")), (NoSpot, lambda: upkeep.road((9,), "val")),
            (NoSpot, lambda: shop.ask("t", (), "x")), (NoNode, lambda: upkeep.put((9,), tree)), (NoNode, lambda: shop.mark("t", (9,), 1)),
            (Ring, lambda: by_demand(ringed, ("m", 0, (("z", 0, ()),)))), (Ring, lambda: Upkeep(ringed, ("m", 0, (("z", 0, ()),)))),
            (Ringed, lambda: Plans(ringed)), (Clash, lambda: joined(grammar, Grammar([], [], [], cap=3))), (Taken, lambda: shop.lay("t", LET_TEXT)),
            (Lacks, lambda: Demand(grammar, tree).worth((), "env")), (TooMuch, lambda: demand.worth((2,), "env", limit=0)),
            (TooMuch, lambda: shop.plant("h", "g", "root(let(let(leaf,leaf),let(leaf,use)))")),
        ]
        kept = all_told()
        ends = shop.log()
        kinds = set()
        for kind, ask in rows:
            for step in range(2):
                with self.assertRaises(kind) as caught:
                    ask()
                self.assertIs(type(caught.exception), kind)
            kinds.add(kind)
            if kind is NoName:
                # A run's beginning and end stay in the log.
                ends = shop.log()
                self.assertEqual(all_told().replace(repr(ends), ""), kept.replace(repr([("begin", 1), ("end", 1)]), ""))
                kept = all_told()
            self.assertEqual(all_told(), kept)
        self.assertEqual(len(kinds), 18)
        self.assertEqual(ends, [("begin", 1), ("end", 1)] * 3)


if __name__ == "__main__":
    unittest.main()
