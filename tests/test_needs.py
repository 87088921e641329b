import random
import unittest

from helper import (
    LET_RULES, LETS, grammars_by_chance, made, needs_due, no_spots, rules_due, same, spots_due, trees_by_chance,
)
from threereckons.errors import NoSpot
from threereckons.grammar import Grammar
from threereckons.needs import needs_of, rule_of, spots_of

TREE = ("root", 1, (("let", 3, (("leaf", 4, ()), ("use", 0, ()))),))


class WrittenOut(unittest.TestCase):
    def test_spots(self):
        due = [
            ((), "out"), ((), "size"), ((1,), "env"), ((1,), "val"), ((1,), "extra"),
            ((1, 1), "env"), ((1, 1), "val"), ((1, 2), "env"), ((1, 2), "val"),
        ]
        same(self, spots_of(made(LETS), TREE), due)
        same(self, spots_of(tree=TREE, grammar=made(LETS)), due)

    def test_rules(self):
        grammar = made(LETS)
        rows = [
            (((), "out"), ((), LET_RULES[7])), (((), "size"), None), (((1,), "env"), ((), LET_RULES[6])),
            (((1,), "val"), ((1,), LET_RULES[3])), (((1,), "extra"), ((1,), LET_RULES[2])),
            (((1, 1), "env"), ((1,), LET_RULES[0])), (((1, 1), "val"), ((1, 1), LET_RULES[4])),
            (((1, 2), "env"), ((1,), LET_RULES[1])), (((1, 2), "val"), ((1, 2), LET_RULES[5])),
        ]
        for spot, due in rows:
            same(self, rule_of(grammar, TREE, spot), due)
            same(self, rule_of(spot=spot, tree=TREE, grammar=grammar), due)

    def test_needs(self):
        grammar = made(LETS)
        rows = [
            (((), "out"), [((1,), "val")]), (((), "size"), []), (((1,), "env"), []), (((1,), "val"), [((1, 2), "val")]),
            (((1,), "extra"), []), (((1, 1), "env"), [((1,), "env")]), (((1, 1), "val"), []),
            (((1, 2), "env"), [((1, 1), "val"), ((1,), "extra")]), (((1, 2), "val"), [((1, 2), "env")]),
        ]
        for spot, due in rows:
            same(self, needs_of(grammar, TREE, spot), due)
            same(self, needs_of(spot=spot, tree=TREE, grammar=grammar), due)

    def test_the_trees_own_downs_have_no_rule(self):
        grammar = made(LETS)
        part = TREE[2][0]
        self.assertIs(rule_of(grammar, part, ((), "env")), None)
        same(self, needs_of(grammar, part, ((), "env")), [])

    def test_named_twice(self):
        rules = [("m", ("at", 0, "u"), "pick", (("at", 1, "u"), ("kept", "k"), ("at", 1, "u"))),
                 ("m", ("kept", "k"), "plus", (("kept", "k"), ("kept", "k")))]
        grammar = Grammar([("s", ("d",), ("u",))], [("m", "s", ("s",)), ("n", "s", ())], rules)
        tree = ("m", 0, (("n", 0, ()),))
        same(self, needs_of(grammar, tree, ((), "u")), [((1,), "u"), ((), "k"), ((1,), "u")])
        same(self, needs_of(grammar, tree, ((), "k")), [((), "k"), ((), "k")])
        same(self, needs_of(grammar, tree, ((1,), "d")), [])
        self.assertIs(rule_of(grammar, tree, ((1,), "u")), None)

    def test_a_name_kept_only_as_an_operand(self):
        rules = [("m", ("at", 0, "u"), "copy", (("kept", "k"),))]
        grammar = Grammar([("s", (), ("u",))], [("m", "s", ())], rules)
        same(self, spots_of(grammar, ("m", 0, ())), [((), "u"), ((), "k")])
        self.assertIs(rule_of(grammar, ("m", 0, ()), ((), "k")), None)
        same(self, needs_of(grammar, ("m", 0, ()), ((), "u")), [((), "k")])


class ByChance(unittest.TestCase):
    def test_every_spot(self):
        rng = random.Random(81)
        without = 0
        for rows in grammars_by_chance(82, 100):
            grammar = made(rows)
            for tree in trees_by_chance(rng, rows, 2, rng.choice([6, 60])):
                spots = spots_of(grammar, tree)
                same(self, spots, spots_due(rows, tree))
                rules, needs = rules_due(rows, tree), needs_due(rows, tree)
                for spot in spots:
                    without += spot not in rules
                    same(self, rule_of(grammar, tree, spot), rules.get(spot))
                    same(self, needs_of(grammar, tree, spot), needs[spot])
                for spot in spots[:3]:
                    needs_of(grammar, tree, spot).append("other")
                    same(self, needs_of(grammar, tree, spot), needs[spot])
                spots.reverse()
                same(self, spots_of(grammar, tree), spots_due(rows, tree))
        self.assertGreater(without, 100)

    def test_no_spot(self):
        rng = random.Random(83)
        rows_of_all = [(LETS, TREE)]
        for rows in grammars_by_chance(84, 15):
            rows_of_all += [(rows, tree) for tree in trees_by_chance(rng, rows, 1, 20)]
        for rows, tree in rows_of_all:
            grammar = made(rows)
            for thing in no_spots(rng, spots_due(rows, tree)):
                for ask in (rule_of, needs_of):
                    with self.assertRaises(NoSpot) as caught:
                        ask(grammar, tree, thing)
                    self.assertIs(type(caught.exception), NoSpot)
                    same(self, caught.exception.spot, thing)

    def test_a_later_change_of_the_spot_is_not_seen(self):
        thing = [(), ["val"]]
        with self.assertRaises(NoSpot) as caught:
            needs_of(made(LETS), TREE, thing)
        thing[1].append("x")
        same(self, caught.exception.spot, [(), ["val"]])


if __name__ == "__main__":
    unittest.main()
