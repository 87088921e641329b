import random
import unittest

from helper import (
    LETS, THINGS, TOP, Asking, Due, cases, copied, given_so, made, no_spots, same, spoilt, spots_due, walk,
)
from threereckons.demand import Demand, by_demand
from threereckons.errors import Lacks, NoGiven, NoSpot, NoTree, Ring, TooMuch
from threereckons.grammar import Grammar

TREE = ("root", 1, (("let", 3, (("leaf", 4, ()), ("use", 0, ()))),))
CHAIN = (
    [("s", ("d",), ("u",))], [("n", "s", ("s",)), ("z", "s", ())],
    [("n", ("at", 1, "d"), "plus", (("at", 0, "d"), ("number", 1))), ("n", ("at", 0, "u"), "copy", (("at", 1, "u"),)),
     ("z", ("at", 0, "u"), "copy", (("at", 0, "d"),))], 0,
)


def chain(places):
    tree = ("z", 0, ())
    for step in range(places):
        tree = ("n", 0, (tree,))
    return tree


class WrittenOut(Asking):
    def test_let(self):
        grammar = made(LETS)
        due = [
            ((), "out", 10), ((), "size", None), ((1,), "env", 5), ((1,), "val", 25), ((1,), "extra", 21),
            ((1, 1), "env", 5), ((1, 1), "val", 4), ((1, 2), "env", 25), ((1, 2), "val", 25),
        ]
        same(self, by_demand(grammar, TREE), due)
        same(self, by_demand(grammar, TREE, given=()), due)
        same(self, by_demand(given=[], tree=TREE, grammar=grammar), due)
        demand = Demand(grammar, TREE)
        same(self, demand.kept(), [])
        same(self, demand.reckoned(), 0)
        same(self, demand.worth((), "out"), 10)
        kept = [((), "out", 10), ((1,), "val", 25), ((1,), "extra", 21), ((1, 1), "val", 4), ((1, 2), "env", 25),
                ((1, 2), "val", 25)]
        same(self, demand.kept(), kept)
        same(self, demand.reckoned(), 6)
        self.refused(Lacks, "spots", [((), "size")], demand.worth, (), "size")
        same(self, demand.worth(name="env", path=(1, 1), limit=2), 5)
        same(self, demand.reckoned(), 8)
        same(self, demand.rings(), False)
        self.assertIs(demand.forget(), None)
        same(self, demand.kept(), [])
        same(self, demand.reckoned(), 0)
        same(self, demand.worth((1, 2), "val"), 25)

    def test_given(self):
        grammar = made(CHAIN)
        same(self, by_demand(grammar, chain(1), given=[("d", 6)]), [((), "d", 6), ((), "u", 7), ((1,), "d", 7), ((1,), "u", 7)])
        none = [((), "d", None), ((), "u", None), ((1,), "d", None), ((1,), "u", None)]
        same(self, by_demand(grammar, chain(1)), none)
        demand = Demand(grammar, chain(1), given=[("d", TOP)])
        same(self, demand.worth((), "d"), TOP)
        same(self, demand.kept(), [])
        same(self, demand.worth((), "u"), 0)
        self.refused(Lacks, "spots", [((), "u"), ((1,), "u"), ((1,), "d"), ((), "d")], Demand(grammar, chain(1)).worth, (), "u")

    def test_given_above_the_cap(self):
        grammar = Grammar(*CHAIN[:3], cap=5)
        same(self, by_demand(grammar, chain(0), given=[("d", 6)]), [((), "d", 5), ((), "u", 5)])
        same(self, by_demand(grammar, chain(0), given=[("d", TOP)]), [((), "d", 5), ((), "u", 5)])
        same(self, by_demand(grammar, chain(0), given=[("d", 4)]), [((), "d", 4), ((), "u", 4)])
        same(self, Demand(grammar, chain(1), given=[("d", 9)]).worth((), "d"), 5)
        same(self, Demand(grammar, chain(1), given=[("d", 5)]).worth((1,), "d"), 5)

    def test_over_and_rest_by_nought(self):
        for op, due in (("over", 3), ("rest", 1)):
            rules = [("m", ("at", 0, "u"), op, (("number", 7), ("own",))), ("m", ("kept", "k"), "plus", (("own",), ("at", 0, "d")))]
            grammar = Grammar([("s", ("d",), ("u",))], [("m", "s", ())], rules)
            same(self, by_demand(grammar, ("m", 2, ()), given=[("d", 1)]), [((), "d", 1), ((), "u", due), ((), "k", 3)])
            same(self, by_demand(grammar, ("m", 0, ())), [((), "d", None), ((), "u", None), ((), "k", None)])
            self.refused(Lacks, "spots", [((), "u")], Demand(grammar, ("m", 0, ())).worth, (), "u")

    def test_what_lacks_isnt_passed_over_by_pick(self):
        rules = [("m", ("at", 0, "u"), "pick", (("number", 1), ("number", 2), ("kept", "k")))]
        grammar = Grammar([("s", (), ("u",))], [("m", "s", ())], rules)
        same(self, by_demand(grammar, ("m", 0, ())), [((), "u", None), ((), "k", None)])
        self.refused(Lacks, "spots", [((), "u"), ((), "k")], Demand(grammar, ("m", 0, ())).worth, (), "u")

    def test_the_first_that_lacks_is_on_the_road(self):
        rules = [("m", ("at", 0, "u"), "pick", (("own",), ("kept", "k"), ("at", 0, "d"))),
                 ("m", ("kept", "k"), "over", (("kept", "j"), ("own",))), ("m", ("kept", "j"), "copy", (("number", 1),))]
        grammar = Grammar([("s", ("d",), ("u",))], [("m", "s", ())], rules)
        self.refused(Lacks, "spots", [((), "u"), ((), "k")], Demand(grammar, ("m", 0, ())).worth, (), "u")
        self.refused(Lacks, "spots", [((), "u"), ((), "d")], Demand(grammar, ("m", 2, ())).worth, (), "u")

    def test_rings(self):
        rules = [
            ("m", ("kept", "k"), "plus", (("kept", "j"), ("kept", "k"))), ("m", ("kept", "j"), "copy", (("kept", "k"),)),
            ("m", ("at", 0, "u"), "plus", (("at", 0, "d"), ("kept", "k"))), ("m", ("at", 0, "v"), "copy", (("own",),)),
        ]
        grammar = Grammar([("s", ("d",), ("u", "v"))], [("m", "s", ())], rules)
        tree = ("m", 3, ())
        demand = Demand(grammar, tree)
        same(self, demand.rings(), True)
        kept = ((), "k")
        # A spot hangs on the ring, so it doesn't lack, though its down isn't given.
        self.refused(Ring, "ring", [kept, ((), "j")], demand.worth, (), "u")
        self.refused(Ring, "ring", [kept, ((), "j")], demand.worth, (), "k")
        self.refused(Ring, "ring", [((), "j"), kept], demand.worth, (), "j")
        self.refused(Lacks, "spots", [((), "d")], demand.worth, (), "d")
        same(self, demand.worth((), "v"), 3)
        same(self, demand.kept(), [((), "v", 3)])
        self.refused(Ring, "ring", [kept, ((), "j")], by_demand, grammar, tree)
        self.refused(Ring, "ring", [kept, ((), "j")], by_demand, grammar, tree, given=[("d", 1)])
        self.refused(NoTree, "thing", ("x", 0, ()), by_demand, grammar, ("x", 0, ()), given=3)
        self.refused(NoGiven, "thing", 3, by_demand, grammar, tree, given=3)

    def test_a_ring_of_one(self):
        grammar = Grammar([("s", (), ("u",))], [("m", "s", ())], [("m", ("kept", "k"), "copy", (("kept", "k"),))])
        self.refused(Ring, "ring", [((), "k")], by_demand, grammar, ("m", 0, ()))
        self.refused(Ring, "ring", [((), "k")], Demand(grammar, ("m", 0, ())).worth, (), "k")

    def test_a_ring_through_parts(self):
        rules = [("m", ("at", 1, "d"), "copy", (("at", 1, "u"),)), ("n", ("at", 0, "u"), "copy", (("at", 0, "d"),)),
                 ("m", ("at", 0, "u"), "plus", (("number", 1), ("at", 1, "u")))]
        grammar = Grammar([("s", ("d",), ("u",))], [("m", "s", ("s",)), ("n", "s", ())], rules)
        tree = ("m", 0, (("n", 0, ()),))
        ring = [((1,), "u"), ((1,), "d")]
        self.refused(Ring, "ring", ring, Demand(grammar, tree).worth, (), "u")
        self.refused(Ring, "ring", ring[::-1], Demand(grammar, tree).worth, (1,), "d")
        self.refused(Ring, "ring", ring, by_demand, grammar, tree, given=[("d", 5)])
        same(self, Demand(grammar, tree[2][0]).rings(), False)

    def test_too_much(self):
        grammar = made(CHAIN)
        tree = chain(30)
        demand = Demand(grammar, tree, given=[("d", 2)])
        self.refused(TooMuch, "many", 61, demand.worth, (), "u", limit=60)
        self.refused(TooMuch, "many", 61, demand.worth, (), "u", limit=0)
        self.refused(TooMuch, "many", 1, demand.worth, (1,), "d", limit=0)
        same(self, demand.reckoned(), 0)
        same(self, demand.worth((), "d", limit=0), 2)
        same(self, demand.worth((1, 1, 1), "d", limit=3), 5)
        self.refused(TooMuch, "many", 58, demand.worth, (), "u", limit=57)
        same(self, demand.reckoned(), 3)
        same(self, demand.worth((), "u", limit=58), 32)
        same(self, demand.reckoned(), 61)
        same(self, demand.worth((), "u", limit=0), 32)
        # What lacks, and a ring, go first.
        self.refused(Lacks, "spots", [((1,), "d"), ((), "d")], Demand(grammar, tree).worth, (1,), "d", limit=0)

    def test_the_limit_that_is_taken(self):
        """Four rules of each of a hundred nodes, all needed for the one of the node ahead of them."""
        rules = [("q", ("at", 0, "u"), "plus", (("at", 1, "u"), ("at", 1, "v")))]
        sides = [
            ("z", ("copy", (("own",),)), ("own",)), ("n", ("plus", (("at", 1, "u"), ("at", 1, "v"))), ("own",)),
            ("p", ("pick", (("at", 1, "u"), ("at", 1, "v"), ("at", 2, "u"))), ("at", 2, "v")),
        ]
        for making, side, term in sides:
            rules += [
                (making, ("kept", "j"), *side), (making, ("kept", "k"), "plus", (term, ("kept", "j"))),
                (making, ("at", 0, "u"), "copy", (("kept", "k"),)), (making, ("at", 0, "v"), "copy", (("kept", "j"),)),
            ]
        makings = [("z", "s", ()), ("n", "s", ("s",)), ("p", "s", ("s", "s")), ("q", "s", ("s",))]
        trees = [("z", 1, ())] * 50
        while len(trees) > 1:
            trees.append(("p", 0, (trees.pop(0), trees.pop(0))))
        tree = ("q", 0, (("n", 0, tuple(trees)),))
        self.assertEqual(len(walk(tree)), 101)
        demand = Demand(Grammar([("s", (), ("u", "v"))], makings, rules), tree)
        self.refused(TooMuch, "many", 401, demand.worth, (), "u")
        same(self, demand.worth(walk(tree)[-1][0], "j"), 1)
        self.refused(TooMuch, "many", 400, demand.worth, (), "u", limit=399)
        self.assertIs(type(demand.worth((), "u")), int)
        same(self, demand.reckoned(), 401)

    def test_limit_and_given_by_their_names_alone(self):
        with self.assertRaises(TypeError):
            Demand(made(LETS), TREE, ())
        with self.assertRaises(TypeError):
            by_demand(made(LETS), TREE, ())
        with self.assertRaises(TypeError):
            Demand(made(LETS), TREE).worth((), "out", 400)


class ByChance(Asking):
    def whole(self, rows, tree, given):
        grammar = made(rows)
        due = Due(rows, tree, given)
        hanging = [spot for spot in due.spots if spot in due.hang]
        same(self, Demand(grammar, tree, given=given).rings(), bool(hanging))
        if hanging:
            self.refused(Ring, "ring", due.ring_from(hanging[0]), by_demand, grammar, tree, given=given)
        else:
            told = by_demand(grammar, tree, given=given)
            same(self, told, [(*spot, due.known[spot]) for spot in due.spots])
            told.clear()
            self.assertEqual(len(by_demand(grammar, tree, given=given)), len(due.spots))
        return due

    def test_all_worths(self):
        rings = lacking = worths = 0
        for rows, tree, given in cases(91, 250):
            due = self.whole(rows, tree, given)
            rings += bool(due.hang)
            lacking += None in due.known.values()
            worths += sum(number is not None for number in due.known.values())
        for count in (rings, lacking, worths):
            self.assertGreater(count, 60)

    def test_great_trees(self):
        for rows, tree, given in cases(92, 25, nodes=60, share=1):
            self.whole(rows, tree, given)
        for rows, tree, given in cases(98, 25, nodes=60, share=1, calm=True):
            self.assertEqual(self.whole(rows, tree, given).hang, set())

    def ask(self, rng, demand, due, kept):
        spot = rng.choice(due.spots)
        path, name = spot
        if spot in due.hang:
            self.refused(Ring, "ring", due.ring_from(spot), demand.worth, path, name, limit=rng.choice([0, 400]))
            return
        if due.known[spot] is None:
            self.refused(Lacks, "spots", due.road(spot), demand.worth, path, name, limit=rng.choice([0, 400]))
            return
        fresh = due.for_it(spot, kept)
        if fresh and rng.random() < 0.3:
            self.refused(TooMuch, "many", len(fresh), demand.worth, path, name, limit=len(fresh) - 1)
            return
        same(self, demand.worth(path, name, limit=len(fresh)), due.known[spot])
        kept.update({each: due.known[each] for each in fresh})

    def test_questions_in_any_order(self):
        rng = random.Random(93)
        kept_in_all = 0
        for rows, tree, given in cases(94, 150):
            due = Due(rows, tree, given)
            if not due.spots:
                continue
            demand = Demand(made(rows), tree, given=given)
            kept = {}
            for step in range(25):
                if rng.random() < 0.05:
                    demand.forget()
                    kept = {}
                self.ask(rng, demand, due, kept)
                told = demand.kept()
                same(self, told, [(*spot, kept[spot]) for spot in due.spots if spot in kept])
                same(self, demand.reckoned(), len(kept))
                told.clear()
                if rng.random() < 0.1:
                    same(self, demand.rings(), bool(due.hang))
            kept_in_all += len(kept)
        self.assertGreater(kept_in_all, 500)

    def test_no_spot(self):
        rng = random.Random(95)
        for rows, tree, given in cases(96, 12):
            demand = Demand(made(rows), tree, given=given)
            for thing in no_spots(rng, spots_due(rows, tree)):
                if type(thing) is tuple and len(thing) == 2:
                    self.refused(NoSpot, "spot", thing, demand.worth, *thing)
                    self.refused(NoSpot, "spot", thing, demand.worth, *thing, limit=0)
            same(self, demand.kept(), [])


class HandedIn(Asking):
    def test_no_given(self):
        sorts = [("s", ("d", "e"), ("u",)), ("t", ("f",), ())]
        grammar = Grammar(sorts, [("m", "s", ("t",)), ("n", "t", ())], [("m", ("kept", "k"), "copy", (("own",),))])
        tree = ("m", 0, (("n", 0, ()),))
        things = THINGS + list(spoilt([("d", 5), ("e", TOP)])) + list(spoilt([("e", 0)])) + [
            (), [], [("d", 1)], (("d", 1),), [("d", 1), ("d", 1)], [("d", 1), ("e", 2), ("d", 3)], [("u", 1)], [("f", 1)],
            [("k", 1)], [("d", True)], [("d", False)], [("d", -1)], [("d", 10 ** 6)], [("d", TOP)], [("d", None)],
            [["d", 1]], [("d", 1, 1)], [("d",)], ["d"], [(["d"], 1)], {}, [(((), "d"), 1)], [("d", "1")], [None], [[]],
        ]
        let = 0
        for given in things:
            before = repr(given)
            if given_so(("d", "e"), given):
                let += 1
                told = dict(given)
                same(self, by_demand(grammar, tree, given=given)[:2], [((), "d", told.get("d")), ((), "e", told.get("e"))])
                Demand(grammar, tree, given=given)
            else:
                self.refused(NoGiven, "thing", given, Demand, grammar, tree, given=given)
                self.refused(NoGiven, "thing", given, by_demand, grammar, tree, given=given)
            self.assertEqual(repr(given), before)
        self.assertGreater(let, 10)
        # A tree whose sort has no downs.
        leaf = Grammar([("s", (), ())], [("m", "s", ())], [])
        self.refused(NoGiven, "thing", [("d", 1)], Demand, leaf, ("m", 0, ()), given=[("d", 1)])

    def test_no_tree(self):
        grammar = made(LETS)
        refused = 0
        for thing in THINGS + [("leaf", 10 ** 6, ()), ("root", 0, ()), ["leaf", 0, ()]] + list(spoilt(("root", 0, (("leaf", 1, ()),)))):
            for given in ((), None, [("x", 1)]):
                try:
                    Demand(grammar, thing, given=given)
                except NoTree as caught:
                    same(self, caught.thing, thing)
                    refused += 1
                    self.refused(NoTree, "thing", thing, by_demand, grammar, thing, given=given)
                except NoGiven:
                    self.assertNotEqual(given, ())
        self.assertGreater(refused, 200)

    def test_later_changes_are_not_seen(self):
        for rows, tree, given in cases(97, 60):
            handed = copied(given)
            grammar = made(rows)
            demand = Demand(grammar, tree, given=handed)
            same(self, handed, given)
            handed.append(("x", 1))
            handed.reverse()
            due = Due(rows, tree, given)
            for spot in due.spots:
                if due.known.get(spot) is not None:
                    same(self, demand.worth(*spot), due.known[spot])

    def test_what_errors_bear_is_the_askers_own(self):
        demand = Demand(made(CHAIN), chain(2))
        for step in range(2):
            with self.assertRaises(Lacks) as caught:
                demand.worth((), "u")
            self.assertEqual(len(caught.exception.spots), 6)
            caught.exception.spots.clear()


if __name__ == "__main__":
    unittest.main()
