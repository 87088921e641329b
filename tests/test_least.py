import unittest

from helper import LET_MAKINGS, LET_RULES, LET_SORTS, THINGS, all_trees, fewest, grammars_by_chance, same, size_of
from threereckons.errors import NoName
from threereckons.grammar import Grammar
from threereckons.least import least_tree
from threereckons.trees import is_tree

LETS = Grammar(LET_SORTS, LET_MAKINGS, LET_RULES)


def made(sorts, makings):
    return Grammar([(sort, (), ()) for sort in sorts], makings, [])


class Least(unittest.TestCase):
    def test_written_out(self):
        leaf = ("leaf", 0, ())
        same(self, least_tree(LETS, "exp"), leaf)
        same(self, least_tree(sort="top", grammar=LETS), ("root", 0, (leaf,)))

    def test_the_least_of_several_of_as_many_nodes(self):
        end = ("end", 0, ())
        rows = [
            ([("b", "s", ()), ("a", "s", ())], ("a", 0, ())),
            ([("b", "s", ()), ("a", "s", ("s",))], ("b", 0, ())),
            ([("b", "s", ("t",)), ("a", "s", ("t",)), ("end", "t", ())], ("a", 0, (end,))),
            ([("a", "s", ("t", "t")), ("c", "s", ("u",)), ("end", "t", ()), ("b", "u", ("t",))], ("a", 0, (end, end))),
            ([("z", "s", ("t",)), ("a", "s", ("t", "t")), ("end", "t", ())], ("z", 0, (end,))),
            ([("a", "s", ("u",)), ("end", "t", ()), ("n", "u", ("t",)), ("m", "u", ("t",))], ("a", 0, (("m", 0, (end,)),))),
            ([("ab", "s", ()), ("b", "s", ()), ("abc", "s", ())], ("ab", 0, ())),
        ]
        for makings, due in rows:
            for turned in (makings, makings[::-1]):
                same(self, least_tree(made("stu", turned), "s"), due)

    def test_none(self):
        grammar = made("stu", [("a", "s", ("s",)), ("b", "t", ("s", "u")), ("c", "u", ())])
        for sort in "st":
            self.assertIs(least_tree(grammar, sort), None)
        same(self, least_tree(grammar, "u"), ("c", 0, ()))
        self.assertIs(least_tree(made("s", []), "s"), None)

    def test_the_greatest_there_can_be(self):
        makings = [("a", "s", ("t", "t")), ("b", "t", ("u", "u")), ("c", "u", ("v", "v")), ("d", "v", ())]
        tree = least_tree(made("stuv", makings), "s")
        self.assertEqual(size_of(tree), 15)
        part = ("c", 0, (("d", 0, ()), ("d", 0, ())))
        half = ("b", 0, (part, part))
        same(self, tree, ("a", 0, (half, half)))

    def test_beside_all_trees(self):
        lacking = 0
        for rows in grammars_by_chance(62, 200):
            sorts, makings, rules, cap = rows
            grammar = Grammar(sorts, makings, rules, cap=cap)
            many = fewest(makings)
            for sort, downs, ups in sorts:
                found = least_tree(grammar, sort)
                if sort not in many:
                    lacking += 1
                    self.assertIs(found, None)
                    continue
                self.assertIs(is_tree(grammar, found, sort=sort), True)
                self.assertEqual(size_of(found), many[sort])
                if many[sort] <= 7:
                    same(self, found, min(all_trees(makings, sort, many[sort])))
                same(self, least_tree(grammar, sort), found)
        self.assertGreater(lacking, 10)

    def test_no_name(self):
        for name in THINGS + ["leaf", "let", "env", "own", "exp ", "ex"]:
            for grammar in (LETS, Grammar([], [], [])):
                with self.assertRaises(NoName) as caught:
                    least_tree(grammar, name)
                self.assertIs(type(caught.exception), NoName)
                same(self, caught.exception.name, name)


if __name__ == "__main__":
    unittest.main()
