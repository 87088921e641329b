import itertools
import random
import unittest

from helper import (
    LETS, THINGS, fewest, grammars_by_chance, graph_due, made, same, size_of, small_trees, trees_by_chance, walk,
)
from threereckons.errors import NoName
from threereckons.grammar import Grammar
from threereckons.graphs import graph_by, graph_of, graphs_of

# Sort s of which each graph but one comes about, some of them by several trees.
SHAPES = (
    [("s", ("d", "e"), ("u", "v")), ("t", (), ("w",))],
    [("a", "s", ()), ("b", "s", ()), ("c", "s", ("s",)), ("f", "s", ("s", "s")), ("g", "t", ("s",)), ("h", "t", ("t",))],
    [
        ("a", ("at", 0, "u"), "copy", (("at", 0, "d"),)),
        ("b", ("at", 0, "v"), "plus", (("kept", "k"), ("at", 0, "d"))), ("b", ("kept", "k"), "copy", (("at", 0, "e"),)),
        ("c", ("at", 0, "u"), "copy", (("at", 1, "v"),)), ("c", ("at", 0, "v"), "copy", (("at", 1, "u"),)),
        ("c", ("at", 1, "d"), "copy", (("at", 0, "e"),)), ("c", ("at", 1, "e"), "copy", (("at", 0, "d"),)),
        ("f", ("at", 0, "u"), "plus", (("at", 1, "u"), ("at", 2, "u"))), ("f", ("at", 1, "d"), "copy", (("at", 0, "d"),)),
        ("f", ("at", 2, "d"), "copy", (("at", 1, "v"),)), ("f", ("at", 1, "e"), "copy", (("at", 2, "v"),)),
        ("f", ("at", 2, "e"), "copy", (("at", 0, "e"),)), ("f", ("at", 0, "v"), "copy", (("at", 2, "v"),)),
        ("g", ("at", 0, "w"), "copy", (("at", 1, "u"),)),
    ], 0,
)


def all_graphs(downs, ups):
    pairs = sorted(itertools.product(downs, ups))
    return [graph for many in range(len(pairs) + 1) for graph in itertools.combinations(pairs, many)]


class OfTrees(unittest.TestCase):
    def test_written_out(self):
        grammar = made(LETS)
        leaf, use = ("leaf", 4, ()), ("use", 0, ())
        rows = [
            (leaf, ()), (use, (("env", "val"),)), (("let", 0, (leaf, use)), ()), (("let", 0, (use, leaf)), ()),
            (("let", 0, (use, use)), (("env", "val"),)), (("root", 0, (use,)), ()),
        ]
        for tree, due in rows:
            same(self, graph_of(grammar, tree), due)
            same(self, graph_of(tree=tree, grammar=grammar), due)
        shapes = made(SHAPES)
        a, b = ("a", 0, ()), ("b", 0, ())
        rows = [
            (a, (("d", "u"),)), (b, (("d", "v"), ("e", "v"))), (("c", 0, (a,)), (("e", "v"),)),
            (("c", 0, (b,)), (("d", "u"), ("e", "u"))), (("g", 0, (a,)), ()),
            # Through a part, out of it, and through the same one again.
            (("f", 0, (b, b)), (("d", "v"), ("e", "v"))), (("f", 0, (b, a)), (("d", "u"),)),
        ]
        for tree, due in rows:
            same(self, graph_of(shapes, tree), due)

    def test_beside_needs(self):
        rng = random.Random(101)
        pairs = 0
        for rows in grammars_by_chance(102, 150):
            grammar = made(rows)
            for tree in trees_by_chance(rng, rows, 3, rng.choice([4, 20, 60])):
                due = graph_due(rows, tree)
                pairs += len(due)
                same(self, graph_of(grammar, tree), due)
        self.assertGreater(pairs, 100)

    def test_what_nodes_bear_is_nothing_to_it(self):
        grammar = made(SHAPES)
        for own in (0, 1, 999999):
            same(self, graph_of(grammar, ("c", own, (("a", own, ()),))), (("e", "v"),))


class ByParts(unittest.TestCase):
    def test_beside_graph_of(self):
        rng = random.Random(103)
        for rows in grammars_by_chance(104, 150):
            grammar = made(rows)
            for tree in trees_by_chance(rng, rows, 3, 15):
                for path, node in walk(tree):
                    graphs = tuple(graph_of(grammar, part) for part in node[2])
                    same(self, graph_by(grammar, node[0], graphs), graph_of(grammar, node))
                    same(self, graph_by(graphs=graphs, making=node[0], grammar=grammar), graph_due(rows, node))

    def test_any_graphs(self):
        """Each graph is had by a making of its own, that has just its rules."""
        for rows in [SHAPES] + grammars_by_chance(105, 25, many_makings=4):
            sorts, makings, rules, cap = rows
            grammar = made(rows)
            rng = random.Random(106)
            worths = {sort: (downs, ups) for sort, downs, ups in sorts}
            for making, sort, parts in makings:
                ways = list(itertools.product(*[all_graphs(*worths[part]) for part in parts]))
                for graphs in rng.sample(ways, min(12, len(ways))):
                    more, inner, extra = [], [], []
                    for at, (part, graph) in enumerate(zip(parts, graphs)):
                        name = "xyz"[at] * 5
                        more.append((name, part, ()))
                        inner.append((name, 0, ()))
                        extra += self.rules_for(name, worths[part][1], graph)
                    kept = [row for row in rules if row[0] == making]
                    whole = (sorts, [(making, sort, parts)] + more, kept + extra, 0)
                    due = graph_due(whole, (making, 0, tuple(inner)))
                    same(self, graph_of(made(whole), (making, 0, tuple(inner))), due)
                    same(self, graph_by(grammar, making, graphs), due)

    def rules_for(self, making, ups, graph):
        found = []
        for up in ups:
            downs = [("at", 0, down) for down, other in graph if other == up]
            if downs:
                found.append((making, ("at", 0, up), "plus", (downs[0], downs[-1])))
        return found

    def test_no_name(self):
        for name in THINGS + ["exp", "s", "own", "x"]:
            if name not in ("leaf", "a"):
                for rows in (LETS, SHAPES, ([], [], [], 0)):
                    with self.assertRaises(NoName) as caught:
                        graph_by(made(rows), name, ())
                    self.assertIs(type(caught.exception), NoName)
                    same(self, caught.exception.name, name)


class OfSorts(unittest.TestCase):
    def test_written_out(self):
        leaf = ("leaf", 0, ())
        grammar = made(LETS)
        same(self, graphs_of(grammar, "exp"), [((), leaf), ((("env", "val"),), ("use", 0, ()))])
        same(self, graphs_of(sort="top", grammar=grammar), [((), ("root", 0, (leaf,)))])
        shapes = made(SHAPES)
        found = dict(graphs_of(shapes, "s"))
        same(self, found[(("d", "u"),)], ("a", 0, ()))
        same(self, found[(("e", "v"),)], ("c", 0, (("a", 0, ()),)))
        same(self, graphs_of(shapes, "t"), [((), ("g", 0, (("a", 0, ()),)))])

    def test_the_least_of_several_of_as_many_nodes(self):
        rules = [("b", ("at", 0, "u"), "copy", (("at", 0, "d"),)), ("a", ("at", 0, "u"), "copy", (("at", 0, "d"),)),
                 ("p", ("at", 0, "u"), "plus", (("at", 1, "u"), ("at", 2, "u"))), ("p", ("at", 2, "d"), "copy", (("at", 0, "d"),))]
        grammar = Grammar([("s", ("d",), ("u",)), ("t", ("d",), ("u",))],
                          [("b", "s", ()), ("a", "s", ()), ("z", "s", ()), ("p", "t", ("s", "s"))], rules)
        a, z = ("a", 0, ()), ("z", 0, ())
        same(self, graphs_of(grammar, "s"), [((), z), ((("d", "u"),), a)])
        # Of part 1 nothing comes through, so the least tree stands there, whatever its graph is.
        same(self, graphs_of(grammar, "t"), [((), ("p", 0, (a, z))), ((("d", "u"),), ("p", 0, (a, a)))])

    def beside_small_trees(self, rows):
        sorts, makings, rules, cap = rows
        grammar = made(rows)
        told = {}
        for sort, downs, ups in sorts:
            found = graphs_of(grammar, sort)
            same(self, graphs_of(grammar, sort), found)
            self.assertEqual([graph for graph, tree in found], sorted({graph for graph, tree in found}))
            told[sort] = dict(found)
            most, trees = small_trees(makings, sort, 7)
            least = {}
            for tree in trees:
                graph = graph_due(rows, tree)
                least[graph] = min((size_of(tree), tree), least.get(graph, (99, ())))
            for graph, tree in found:
                same(self, graph_of(grammar, tree), graph)
                self.assertEqual(graph_due(rows, tree), graph)
                if size_of(tree) <= most:
                    same(self, tree, least[graph][1])
            self.assertEqual([graph for graph in least if graph not in told[sort]], [])
            found.clear()
        return told

    def nothing_is_missing(self, rows, told):
        grammar = made(rows)
        for making, sort, parts in rows[1]:
            for graphs in itertools.product(*[told[part] for part in parts]):
                self.assertIn(graph_by(grammar, making, graphs), told[sort])

    def test_beside_all_small_trees(self):
        without = several = 0
        for rows in [LETS, SHAPES] + grammars_by_chance(107, 250):
            told = self.beside_small_trees(rows)
            self.nothing_is_missing(rows, told)
            many = fewest(rows[1])
            for sort in told:
                self.assertEqual(told[sort] == {}, sort not in many)
                without += told[sort] == {}
                several += len(told[sort]) > 1
        self.assertGreater(without, 10)
        self.assertGreater(several, 40)

    def test_many_graphs(self):
        most = 0
        for rows in grammars_by_chance(108, 40, many_sorts=2, many_makings=8, share=1):
            sorts = [(sort, ("d", "e"), ("u", "v")) for sort, downs, ups in rows[0]]
            rng = random.Random(repr(rows))
            rules = []
            for making, sort, parts in rows[1]:
                terms = [("at", 0, "d"), ("at", 0, "e"), ("own",)]
                terms += [("at", at + 1, up) for at in range(len(parts)) for up in "uv"]
                aims = [("at", 0, up) for up in "uv"] + [("at", at + 1, down) for at in range(len(parts)) for down in "de"]
                rules += [(making, target, "plus", (rng.choice(terms), rng.choice(terms))) for target in aims]
            whole = (sorts, rows[1], rules, 0)
            told = self.beside_small_trees(whole)
            self.nothing_is_missing(whole, told)
            most = max(most, *[len(found) for found in told.values()])
        self.assertGreater(most, 8)

    def test_no_name(self):
        for name in THINGS + ["let", "use", "own", "x", "expp"]:
            for rows in (LETS, ([], [], [], 0)):
                with self.assertRaises(NoName) as caught:
                    graphs_of(made(rows), name)
                self.assertIs(type(caught.exception), NoName)
                same(self, caught.exception.name, name)


if __name__ == "__main__":
    unittest.main()
