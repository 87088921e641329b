import itertools
import random
import unittest

from helper import (
    LETS, THINGS, Asking, copied, fewest, fit_grammars, grammars_by_chance, has_ring, is_fit, leasts_due, made, needs_due,
    operands, same, size_of, small_trees, sort_due, spoilt, trees_by_chance, walk,
)
from threereckons.demand import Demand
from threereckons.graphs import graphs_of
from threereckons.rings import ring_ahead, shows_ring

# Both parts hand what they're worth to each other: a ring where both hand it on.
CROSS = (
    [("s", ("d",), ("u",))], [("p", "s", ("s", "s")), ("use", "s", ()), ("leaf", "s", ())],
    [("p", ("at", 1, "d"), "copy", (("at", 2, "u"),)), ("p", ("at", 2, "d"), "copy", (("at", 1, "u"),)),
     ("use", ("at", 0, "u"), "copy", (("at", 0, "d"),)), ("leaf", ("at", 0, "u"), "copy", (("own",),)),
     ("p", ("at", 0, "u"), "copy", (("own",),))], 0,
)
# By sorts a to d trees of 1, 3, 7, 15 nodes, by q one of 31 that hands on, and by q of two of these the ring.
GREAT = (
    [("a", (), ()), ("b", (), ()), ("c", (), ()), ("d", ("x",), ("u",))],
    [("la", "a", ()), ("pb", "b", ("a", "a")), ("pc", "c", ("b", "b")), ("pd", "d", ("c", "c")), ("q", "d", ("d", "d"))],
    [("pd", ("at", 0, "u"), "copy", (("own",),)), ("q", ("at", 0, "u"), "copy", (("at", 0, "x"),)),
     ("q", ("at", 1, "x"), "copy", (("at", 2, "u"),)), ("q", ("at", 2, "x"), "copy", (("at", 1, "u"),))], 0,
)


def sort_without_trees(kept):
    """Sort s has no tree: each making has a part of its own sort."""
    rules = [("m", ("kept", "k"), "copy", (("kept", "k"),)), ("n", ("at", 1, "d"), "copy", (("at", 1, "u"),)),
             ("m", ("at", 0, "u"), "copy", (("at", 0, "d"),))]
    makings = [("m", "s", ("s",)), ("n", "s", ("s", "t"))] + ([("z", "t", ())] if kept else [])
    return ([("s", ("d",), ("u",)), ("t", (), ("v",))], makings, rules, 0)


def is_ring_due(rows, thing):
    """By the words of [12] and [9], by what is shown, so that kinds tell."""
    if type(thing) is not tuple or len(thing) != 2 or sort_due(rows[1], thing[0]) is None:
        return False
    tree, ring = thing
    if type(ring) is not list or not ring:
        return False
    needs = {repr(spot): [repr(need) for need in found] for spot, found in needs_due(rows, tree).items()}
    shown = [repr(spot) for spot in ring]
    if any(spot not in needs for spot in shown) or len(set(shown)) < len(shown):
        return False
    return all(shown[(at + 1) % len(shown)] in needs[spot] for at, spot in enumerate(shown))


def nearly_calm(seed, many):
    """Grammars without rings, but for a rule or two, so that rings show on greater trees."""
    rng = random.Random(seed)
    found = []
    for sorts, makings, rules, cap in grammars_by_chance(seed + 1, many, share=1, calm=True, many_makings=8):
        rules = list(rules)
        for step in range(rng.choice([1, 2]) if rules else 0):
            at = rng.randrange(len(rules))
            making, target, op, terms = rules[at]
            kept = sorted({term[1] for rule in rules if rule[0] == making for term in (rule[1], *rule[3]) if term[0] == "kept"})
            fitting = operands(sorts, makings, making, kept)
            rules[at] = (making, target, op, tuple(rng.choice(fitting) for term in terms))
        if is_fit((sorts, makings, rules, cap)):
            found.append((sorts, makings, rules, cap))
    return found


class Ahead(Asking):
    def due(self, rows, tree):
        """The tree that is told, with a ring of it."""
        grammar = made(rows)
        found = ring_ahead(grammar)
        same(self, ring_ahead(grammar=grammar), found)
        if tree is None:
            self.assertIs(found, None)
            return
        self.assertIs(type(found), tuple)
        same(self, found[0], tree)
        self.assertTrue(is_ring_due(rows, found))
        self.assertIs(shows_ring(grammar, found), True)

    def test_written_out(self):
        use = ("use", 0, ())
        self.due(([], [], [], 0), None)
        self.due(([("s", ("d",), ("u",))], [], [], 0), None)
        self.due(LETS, None)
        self.due(CROSS, ("p", 0, (use, use)))
        own = ([("s", (), ("u",))], [("m", "s", ())], [("m", ("kept", "k"), "copy", (("kept", "k"),))], 5)
        self.due(own, ("m", 0, ()))
        same(self, ring_ahead(made(own)), (("m", 0, ()), [((), "k")]))

    def test_a_tree_of_many_nodes(self):
        tree = ("la", 0, ())
        for making in ("pb", "pc", "pd", "q", "q"):
            tree = (making, 0, (tree, tree))
        self.assertEqual(size_of(tree), 63)
        self.assertEqual([size_of(least) for graph, least in graphs_of(made(GREAT), "d")], [15, 31])
        self.due(GREAT, tree)
        # What was told may be handed in again.
        found = ring_ahead(made(GREAT))
        same(self, Demand(made(GREAT), found[0]).rings(), True)

    def test_a_deep_tree(self):
        """Eight makings of one part each, by turns, so that the ring shows only far down."""
        sorts = [("s", ("d", "e"), ("u", "v"))]
        makings = [("z", "s", ()), ("n", "s", ("s",)), ("o", "s", ("s",)), ("r", "s", ("s",))]
        rules = [
            ("z", ("at", 0, "u"), "copy", (("at", 0, "d"),)),
            ("n", ("at", 0, "u"), "copy", (("at", 1, "v"),)), ("n", ("at", 0, "v"), "copy", (("at", 1, "u"),)),
            ("n", ("at", 1, "d"), "copy", (("at", 0, "d"),)), ("n", ("at", 1, "e"), "copy", (("at", 0, "e"),)),
            ("o", ("at", 0, "u"), "copy", (("at", 1, "u"),)), ("o", ("at", 0, "v"), "copy", (("at", 1, "v"),)),
            ("o", ("at", 1, "d"), "copy", (("at", 0, "e"),)), ("o", ("at", 1, "e"), "copy", (("at", 0, "d"),)),
            ("r", ("at", 1, "e"), "copy", (("at", 1, "v"),)),
        ]
        z = ("z", 0, ())
        self.due((sorts, makings, rules, 0), ("r", 0, (("n", 0, (("o", 0, (z,)),)),)))

    def test_the_least_of_several_of_as_many_nodes(self):
        rules = [("b", ("kept", "k"), "copy", (("kept", "k"),)), ("a", ("kept", "k"), "copy", (("kept", "k"),))]
        makings = [("b", "s", ()), ("a", "t", ()), ("c", "s", ())]
        self.due(([("s", (), ()), ("t", (), ())], makings, rules, 0), ("a", 0, ()))
        self.due(([("s", (), ()), ("t", (), ())], makings, rules[:1], 0), ("b", 0, ()))

    def test_a_sort_without_trees(self):
        for kept in (False, True):
            rows = sort_without_trees(kept)
            self.due(rows if kept else (rows[0], rows[1], rows[2], 0), None)
        more = sort_without_trees(True)
        makings = more[1] + [("end", "s", ())]
        self.due((more[0], makings, more[2], 0), ("m", 0, (("end", 0, ()),)))

    def beside_small_trees(self, rows):
        most, ringed = 99, []
        for sort, downs, ups in rows[0]:
            nodes, trees = small_trees(rows[1], sort, 6)
            most = min(most, nodes)
            ringed += [(size_of(tree), tree) for tree in trees if has_ring(rows, tree)]
        found = ring_ahead(made(rows))
        ringed = [pair for pair in ringed if pair[0] <= most]
        if ringed:
            self.due(rows, min(ringed)[1])
        elif found is not None:
            self.assertGreater(size_of(found[0]), most)
            self.assertTrue(has_ring(rows, found[0]))
        return found

    def beside_leasts(self, rows):
        """All trees whose parts are least ones of their graphs."""
        leasts = leasts_due(rows)
        ringed = []
        for making, sort, parts in rows[1]:
            ways = [[tree for (whose, graph), (many, tree) in leasts.items() if whose == part] for part in parts]
            for inner in itertools.product(*ways):
                if has_ring(rows, (making, 0, inner)):
                    ringed.append((size_of((making, 0, inner)), (making, 0, inner)))
        self.due(rows, min(ringed)[1] if ringed else None)

    def test_by_chance(self):
        rings = calm = beyond = 0
        for rows in fit_grammars(111, 200) + fit_grammars(112, 100, share=0.6, calm=True) + nearly_calm(121, 150):
            found = self.beside_small_trees(rows)
            self.beside_leasts(rows)
            rings += found is not None
            calm += found is None and bool(fewest(rows[1]))
            beyond += found is not None and size_of(found[0]) > 2
        self.assertGreater(min(rings, calm), 80)
        self.assertGreater(beyond, 15)

    def test_none_just_where_no_tree_has_one(self):
        rng = random.Random(113)
        for rows in fit_grammars(114, 150):
            if ring_ahead(made(rows)) is None:
                for tree in trees_by_chance(rng, rows, 3, 25):
                    self.assertFalse(has_ring(rows, tree))

    def test_what_is_told_is_the_askers_own(self):
        for rows in (CROSS, GREAT):
            grammar = made(rows)
            found = ring_ahead(grammar)
            kept = copied(found)
            found[1].clear()
            same(self, ring_ahead(grammar), kept)
            same(self, ring_ahead(made(rows)), kept)


class Shown(Asking):
    def due(self, rows, thing):
        shown = repr(thing)
        found = is_ring_due(rows, thing)
        same(self, shows_ring(made(rows), thing), found)
        self.assertEqual(repr(thing), shown)
        return found

    def ringed(self, seed, many):
        for rows in fit_grammars(seed, many):
            found = ring_ahead(made(rows))
            if found is not None:
                yield rows, found

    def test_begun_at_any_spot(self):
        longest = 0
        for rows, (tree, ring) in [*self.ringed(115, 120), (CROSS, ring_ahead(made(CROSS))), (GREAT, ring_ahead(made(GREAT)))]:
            longest = max(longest, len(ring))
            for at in range(len(ring)):
                self.assertIs(shows_ring(made(rows), (tree, ring[at:] + ring[:at])), True)
                self.assertIs(shows_ring(thing=(tree, ring[at:] + ring[:at]), grammar=made(rows)), True)
            self.due(rows, (tree, ring[::-1]))
            self.assertFalse(self.due(rows, (tree, ring + ring)))
            self.assertFalse(self.due(rows, (tree, [])))
            self.assertFalse(self.due(rows, (tree, ring + ring[:1])))
        self.assertGreaterEqual(longest, 4)

    def test_what_nodes_bear_is_nothing_to_it(self):
        tree, ring = ring_ahead(made(CROSS))
        self.assertTrue(self.due(CROSS, (("p", 7, (("use", 3, ()), ("use", 999999, ()))), ring)))
        self.assertFalse(self.due(CROSS, (("p", 7, (("use", 3, ()), ("use", 10 ** 6, ()))), ring)))
        self.assertFalse(self.due(CROSS, (("p", 7, (("use", 3, ()), ("leaf", 1, ()))), ring)))

    def test_one_step_otherwise(self):
        tree, ring = ring_ahead(made(CROSS))
        self.assertEqual(len(ring), 4)
        self.assertGreater(sum([self.due(CROSS, thing) for thing in spoilt((tree, ring))]), 5)
        great = ring_ahead(made(GREAT))
        rng = random.Random(116)
        for thing in rng.sample(list(spoilt(great[1])), 150):
            self.due(GREAT, (great[0], thing))
        for rows, found in self.ringed(117, 40):
            things = list(spoilt(found))
            for thing in rng.sample(things, min(60, len(things))):
                self.due(rows, thing)

    def test_other_spots_in_it(self):
        for rows, (tree, ring) in self.ringed(118, 30):
            for at in range(len(ring)):
                for spot in needs_due(rows, tree):
                    self.due(rows, (tree, ring[:at] + [spot] + ring[at + 1:]))
                    self.due(rows, (tree, ring[:at] + [spot] + ring[at:]))

    def test_rings_of_greater_trees(self):
        rng = random.Random(119)
        shown = 0
        for rows, (tree, ring) in self.ringed(120, 60):
            for great in trees_by_chance(rng, rows, 3, 20):
                for path, node in walk(great):
                    shown += self.due(rows, (great, [((*path, *at), name) for at, name in ring]))
        self.assertGreater(shown, 20)

    def test_things_of_any_make(self):
        tree, ring = ring_ahead(made(CROSS))
        for rows in (CROSS, LETS, ([], [], [], 0)):
            for thing in THINGS:
                for whole in (thing, (thing, thing), (tree, thing), (thing, ring), (tree, [thing]), (tree, ring + [thing]),
                              [tree, ring], (tree, tuple(ring)), (tree, ring, thing), (tree, [(thing, "u")]), (tree, [((1,), thing)])):
                    self.due(rows, whole)

    def test_truths_for_places(self):
        tree, ring = ring_ahead(made(CROSS))
        wrong = [((path[0] == 1, *path[1:]) if path == (1,) else path, name) for path, name in ring]
        self.assertEqual(wrong, ring)
        self.assertIs(shows_ring(made(CROSS), (tree, wrong)), False)
        self.assertIs(shows_ring(made(CROSS), (("p", False, tree[2]), ring)), False)


if __name__ == "__main__":
    unittest.main()
