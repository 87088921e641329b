import random
import unittest

from helper import (
    LET_MAKINGS, LET_RULES, LET_SORTS, THINGS, TOP, grammars_by_chance, nested, same, sort_due, spoilt, trees_by_chance,
    walk,
)
from threereckons.errors import NoNode
from threereckons.grammar import Grammar
from threereckons.trees import is_tree, nodes_of, part_at, put_at, sort_of

LETS = Grammar(LET_SORTS, LET_MAKINGS, LET_RULES)
LEAF = ("leaf", 4, ())
USE = ("use", 0, ())
TREE = ("root", 1, (("let", 3, (LEAF, ("let", TOP, (USE, LEAF)))),))
CHAIN = Grammar([("s", (), ()), ("t", (), ())], [("s", "s", ("s",)), ("one", "s", ("t",)), ("end", "t", ()),
                                                 ("two", "s", ("t", "s"))], [])


def chain(places, *, two=False):
    tree = ("end", 5, ())
    for step in range(places):
        making = "one" if step == 0 else "two" if two else "s"
        tree = (making, step, (("end", step, ()), tree) if making == "two" else (tree,))
    return tree


class IsTree(unittest.TestCase):
    def due(self, grammar, thing):
        found = sort_due(grammar.makings(), thing)
        shown = repr(thing)
        same(self, is_tree(grammar, thing), found is not None)
        same(self, is_tree(grammar, thing, sort=None), found is not None)
        for sort in [row[0] for row in grammar.sorts()] + ["x", "own", "leaf", "let", ""]:
            same(self, is_tree(grammar, thing, sort=sort), found == sort)
        self.assertEqual(repr(thing), shown)
        return found is not None

    def test_written_out(self):
        for tree, sort in ((TREE, "top"), (LEAF, "exp"), (USE, "exp"), (TREE[2][0], "exp")):
            self.assertIs(is_tree(LETS, tree), True)
            self.assertIs(is_tree(LETS, tree, sort=sort), True)
            self.assertIs(is_tree(sort=sort, thing=tree, grammar=LETS), True)
            self.assertIs(is_tree(LETS, tree, sort="top" if sort == "exp" else "exp"), False)
            self.assertIs(is_tree(LETS, tree, sort="none"), False)
        for thing in (
            ("leaf", 10 ** 6, ()), ("leaf", -1, ()), ("leaf", True, ()), ("leaf", "0", ()), ("leaf", None, ()),
            ("leaf", 0, []), ["leaf", 0, ()], ("leaf", 0), ("leaf", 0, (), ()), ("leaf", 0, (LEAF,)), ("x", 0, ()),
            ("exp", 0, ()), (["leaf"], 0, ()), (None, 0, ()), ("let", 0, (LEAF,)), ("let", 0, (LEAF, LEAF, LEAF)),
            ("let", 0, (LEAF, TREE)), ("let", 0, (TREE, LEAF)), ("root", 0, (TREE,)), ("root", 0, ()), ("let", 0, LEAF),
            ("root", 0, ([LEAF],)), ("root", 0, (list(LEAF),)), ("root", 0, (None,)), ("let", 0, [LEAF, LEAF]),
        ):
            self.assertIs(is_tree(LETS, thing), False, thing)

    def test_one_node_otherwise(self):
        trees = 0
        for thing in spoilt(TREE):
            trees += self.due(LETS, thing)
        self.assertGreater(trees, 20)

    def test_by_chance(self):
        rng = random.Random(51)
        for rows in grammars_by_chance(52, 40):
            grammar = Grammar(rows[0], rows[1], rows[2], cap=rows[3])
            for tree in trees_by_chance(rng, rows, 4, 60):
                self.assertTrue(self.due(grammar, tree))
            for tree in trees_by_chance(rng, rows, 1, 6):
                for thing in rng.sample(list(spoilt(tree)), 30):
                    self.due(grammar, thing)

    def test_things_of_any_make(self):
        for thing in THINGS:
            self.due(LETS, thing)
            self.due(LETS, (thing, 0, ()))
            self.due(LETS, ("leaf", thing, ()))
            self.due(LETS, ("leaf", 0, thing))
            self.due(LETS, ("root", 0, (thing,)))
            self.due(Grammar([], [], []), thing)

    def test_however_great(self):
        for places in (30, 31, 38, 39):
            self.assertIs(is_tree(CHAIN, chain(places)), True)
            self.assertIs(is_tree(CHAIN, chain(places), sort="s"), True)
            self.assertIs(is_tree(CHAIN, ("s", 0, (chain(places)[:2] + ([],),))), False)
        great = chain(38, two=True)
        self.assertEqual(len(walk(great)), 76)
        self.assertTrue(self.due(CHAIN, great))
        wrong = ("end", True, ())
        for step in range(38):
            wrong = ("one" if step == 0 else "s", 0, (wrong,))
        self.assertFalse(self.due(CHAIN, wrong))

    def test_sort_by_its_name_alone(self):
        with self.assertRaises(TypeError):
            is_tree(LETS, LEAF, "exp")


def some_trees():
    rng = random.Random(53)
    found = [LEAF, TREE, chain(30), chain(29, two=True), chain(37, two=True)]
    for rows in grammars_by_chance(54, 12):
        found += trees_by_chance(rng, rows, 2, 60)
    # Of whatever makings and numbers, as no grammar is asked.
    return found + [("other", 3, (("own", TOP, ()), ("x", 0, (("y", 1, ()),))))]


NO_PATHS = THINGS + [
    (0,), (1, 0), (0, 1), (3,), (1, 3), (-1,), (1, -1), (True,), (1, True), (True, 1), (False,), ("1",), (1, "2"),
    (None,), ((1,),), ([1],), [1], [], [1, 2], "", "1", 0, 1, None, True, (1, (2,)), (10 ** 30,), (-(10 ** 30),),
    nested(80, list), nested(80, tuple), (1, nested(79, list)),
]


class Nodes(unittest.TestCase):
    def test_written_out(self):
        same(self, nodes_of(TREE), [(), (1,), (1, 1), (1, 2), (1, 2, 1), (1, 2, 2)])
        same(self, nodes_of(LEAF), [()])
        same(self, nodes_of(tree=LEAF), [()])
        same(self, part_at(TREE, (1, 2, 1)), USE)
        same(self, part_at(path=(), tree=TREE), TREE)
        same(self, put_at(TREE, (1, 2), LEAF), ("root", 1, (("let", 3, (LEAF, LEAF)),)))
        same(self, put_at(part=LEAF, path=(), tree=TREE), LEAF)
        same(self, put_at(TREE, (1, 1), TREE), ("root", 1, (("let", 3, (TREE, TREE[2][0][2][1])),)))

    def test_at_each_node(self):
        for tree in some_trees():
            shown = repr(tree)
            paths = nodes_of(tree)
            same(self, paths, [path for path, node in walk(tree)])
            for path, node in walk(tree):
                same(self, part_at(tree, path), node)
                self.assertEqual(put_at(tree, path, node), tree)
                part = ("new", 7, (LEAF, LEAF))
                whole = put_at(tree, path, part)
                due = [row for row in walk(tree) if row[0][:len(path)] != path]
                kept = [row[0] for row in walk(whole) if row[0][:len(path)] != path]
                same(self, kept, [row[0] for row in due])
                same(self, part_at(whole, path), part)
                same(self, [part_at(whole, each)[:2] for each in kept], [row[1][:2] for row in due])
                self.assertEqual(put_at(whole, path, node), tree)
            told = nodes_of(tree)
            told.clear()
            self.assertEqual(nodes_of(tree), paths)
            self.assertEqual(repr(tree), shown)

    def refused(self, path, ask, *told):
        with self.assertRaises(NoNode) as caught:
            ask(*told)
        self.assertIs(type(caught.exception), NoNode)
        same(self, caught.exception.path, path)

    def test_no_node(self):
        for tree in (LEAF, TREE, chain(30), chain(5, two=True)):
            paths = [path for path, node in walk(tree)]
            shown = [repr(path) for path in paths]
            things = NO_PATHS + [path + more for path in paths for more in ((0,), (1,), (2,), (3,), (True,), (None,))]
            things += [list(path) for path in paths] + [path[:-1] + (bool(path[-1]),) for path in paths if path]
            refused = 0
            for path in things:
                if repr(path) not in shown:
                    self.refused(path, part_at, tree, path)
                    self.refused(path, put_at, tree, path, LEAF)
                    refused += 1
            self.assertGreater(refused, 60)

    def test_what_was_told_may_be_handed_in_again(self):
        tree = chain(20, two=True)
        for step in range(3):
            tree = put_at(tree, nodes_of(tree)[-1], chain(8, two=True))
        self.assertEqual(len(nodes_of(tree)), len(walk(tree)))
        same(self, part_at(tree, nodes_of(tree)[-1]), ("end", 5, ()))


class Sorts(unittest.TestCase):
    def test_sort_of(self):
        self.assertEqual(sort_of(LETS, TREE), "top")
        self.assertEqual(sort_of(tree=LEAF, grammar=LETS), "exp")
        rng = random.Random(55)
        for rows in grammars_by_chance(56, 30):
            grammar = Grammar(rows[0], rows[1], rows[2], cap=rows[3])
            for tree in trees_by_chance(rng, rows, 3, 60):
                for path, node in walk(tree):
                    same(self, sort_of(grammar, node), sort_due(rows[1], node))


if __name__ == "__main__":
    unittest.main()
