import random
import unittest

from helper import (
    LETS, THINGS, Asking, Due, PlansDue, cases, copied, fit_grammars, is_fit, made, same, shuffled, spoilt, trees_by_chance,
)
from threereckons.demand import by_demand
from threereckons.errors import NoGiven, NoRow, NoTree, Ringed
from threereckons.grammar import Grammar
from threereckons.plans import Plans
from threereckons.rings import ring_ahead, shows_ring

D, U = ("at", 0, "d"), ("at", 0, "u")
# m wants its first part's up ahead of its down, of its second one the down ahead of the up.
TWICE = (
    [("s", ("d",), ("u",))], [("z", "s", ()), ("m", "s", ("s", "s"))],
    [("z", U, "copy", (("own",),)), ("m", ("at", 1, "d"), "plus", (("at", 1, "u"), ("own",))),
     ("m", ("at", 2, "d"), "copy", (("at", 1, "u"),)), ("m", U, "plus", (("at", 2, "u"), ("kept", "k"))),
     ("m", ("kept", "k"), "times", (("at", 1, "u"), ("at", 2, "u"))), ("z", ("kept", "k"), "plus", (D, D))], 0,
)
# Of a the up u hangs on d, of b v on e; m hands v to d and u to e.
APART = (
    [("s", ("d", "e"), ("u", "v"))], [("a", "s", ()), ("b", "s", ()), ("m", "s", ("s",))],
    [("a", U, "copy", (D,)), ("b", ("at", 0, "v"), "copy", (("at", 0, "e"),)), ("a", ("at", 0, "v"), "copy", (("own",),)),
     ("b", U, "copy", (("own",),)), ("m", ("at", 1, "d"), "copy", (("at", 1, "v"),)),
     ("m", ("at", 1, "e"), "copy", (("at", 1, "u"),)), ("m", U, "plus", (("at", 1, "u"), ("at", 1, "v")))], 0,
)
RINGED = (
    [("s", ("d",), ("u",))], [("m", "s", ("s",)), ("z", "s", ())],
    [("m", ("at", 1, "d"), "copy", (("at", 1, "u"),)), ("z", U, "copy", (D,))], 3,
)


def planned(seed, many, **told):
    """(rows, Plans) of grammars without rings, by chance."""
    for rows in fit_grammars(seed, many, **told):
        if ring_ahead(made(rows)) is None:
            yield rows, Plans(made(rows))


class WrittenOut(Asking):
    def test_no_makings(self):
        for grammar in (Grammar([], [], []), Grammar([("s", ("d",), ("u",))], [], [], cap=4)):
            plans = Plans(grammar)
            same(self, plans.rows(), [])
            same(self, len(plans), 0)
            self.refused(NoRow, "making", "s", plans.steps_for, "s", (), ())
            self.refused(NoTree, "thing", ("s", 0, ()), plans.worths, ("s", 0, ()))
        self.assertTrue(Plans(Grammar([], [], [])) == Plans(Grammar([("s", (), ())], [], [])))

    def test_a_sort_without_trees(self):
        rows = ([("s", (), ("u",)), ("t", (), ())], [("m", "s", ("s",)), ("n", "t", ()), ("o", "t", ("s", "t"))], [], 0)
        same(self, Plans(made(rows)).rows(), [("n", (), (), ())])

    def test_one_down_one_up(self):
        rows = ([("s", ("d",), ("u",))], [("n", "s", ("s",)), ("use", "s", ()), ("z", "s", ())],
                [("n", ("at", 1, "d"), "copy", (D,)), ("n", U, "copy", (("at", 1, "u"),)), ("use", U, "copy", (D,)),
                 ("z", U, "copy", (("own",),))], 0)
        plans = Plans(grammar=made(rows))
        graph, order = (("d", "u"),), ("d", "u")
        through = (D, ("at", 1, "d"), ("at", 1, "u"), U)
        due = [("n", ((),), order, through), ("n", (graph,), order, through), ("use", (), order, (D, U)), ("z", (), order, (D, U))]
        same(self, plans.rows(), due)
        same(self, len(plans), 4)
        same(self, plans.steps_for("n", (graph,), order), through)
        same(self, plans.steps_for(order=order, graphs=(), making="z"), (D, U))
        for wrong in (("n", (), order), ("n", ((), ()), order), ("z", (), ("u", "d")), ("s", (), order), ("n", ((("u", "d"),),), order)):
            self.refused(NoRow, "making", wrong[0], plans.steps_for, *wrong)
        same(self, plans.worths(("n", 0, (("z", 4, ()),))), [((), "d", None), ((), "u", 4), ((1,), "d", None), ((1,), "u", 4)])

    def test_gone_through_twice_in_two_orders(self):
        plans = Plans(made(TWICE))
        one, two = ("at", 1, "u"), ("at", 1, "d")
        three, four = ("at", 2, "d"), ("at", 2, "u")
        due = [
            # The least that may come next: place 0 has its turn by order alone.
            ("m", ((), ()), ("d", "u"), (D, one, two, three, four, ("kept", "k"), U)),
            ("m", ((), ()), ("u", "d"), (one, two, three, four, ("kept", "k"), U, D)),
            ("z", (), ("d", "u"), (D, U, ("kept", "k"))), ("z", (), ("u", "d"), (U, D, ("kept", "k"))),
        ]
        same(self, plans.rows(), due)
        z = ("z", 3, ())
        tree = ("m", 1, (("m", 2, (z, z)), ("m", 5, (z, ("z", 8, ())))))
        for given in ([], [("d", 7)]):
            same(self, plans.worths(tree, given=given), by_demand(made(TWICE), tree, given=given))
        same(self, plans.worths(given=[("d", 7)], tree=tree)[0], ((), "d", 7))

    def test_graphs_that_put_together_close_a_ring(self):
        plans = Plans(made(APART))
        both = {row[1]: row[3] for row in plans.rows() if row[0] == "m"}
        self.assertEqual(sorted(both), [((),), ((("d", "u"),),), ((("e", "v"),),)])
        a, b = both[((("d", "u"),),)], both[((("e", "v"),),)]
        self.assertLess(a.index(("at", 1, "d")), a.index(("at", 1, "e")))
        self.assertGreater(b.index(("at", 1, "d")), b.index(("at", 1, "e")))
        for leaf in ("a", "b"):
            tree = ("m", 0, ((leaf, 4, ()),))
            for tree in (tree, ("m", 0, (tree,))):
                same(self, plans.worths(tree), by_demand(made(APART), tree))

    def test_ringed(self):
        with self.assertRaises(Ringed) as caught:
            Plans(made(RINGED))
        self.assertIs(type(caught.exception), Ringed)
        same(self, caught.exception.least, ("m", 0, (("z", 0, ()),)))
        self.assertTrue(shows_ring(made(RINGED), (caught.exception.least, caught.exception.ring)))

    def test_given_by_its_name_alone(self):
        with self.assertRaises(TypeError):
            Plans(made(TWICE)).worths(("z", 0, ()), [])


class ByChance(Asking):
    def test_rows(self):
        several = most = 0
        told = [*planned(131, 150), *planned(132, 60, share=1, calm=True), (TWICE, Plans(made(TWICE))), (APART, Plans(made(APART)))]
        for rows, plans in told:
            due = PlansDue(rows)
            found = plans.rows()
            same(self, found, due.closed(due.roots()))
            self.assertEqual(found, sorted(set(found)))
            same(self, len(plans), len(found))
            several += len({row[:2] for row in found}) < len(found)
            most = max(most, len(found))
            for making, graphs, order, steps in found:
                same(self, plans.steps_for(making, graphs, order), steps)
        self.assertGreater(several, 15)
        self.assertGreater(most, 40)

    def test_ringed(self):
        ringed = 0
        for rows in fit_grammars(133, 150):
            due = ring_ahead(made(rows))
            if due is not None:
                with self.assertRaises(Ringed) as caught:
                    Plans(made(rows))
                same(self, caught.exception.least, due[0])
                self.assertTrue(shows_ring(made(rows), (caught.exception.least, caught.exception.ring)))
                caught.exception.ring.clear()
                ringed += 1
        self.assertGreater(ringed, 30)

    def test_alike(self):
        rng = random.Random(134)
        told = list(planned(135, 60))
        for rows, plans in told:
            other = Plans(made(shuffled(rng, rows)))
            self.assertTrue(plans == other and other == plans)
            self.assertFalse(plans != other)
            same(self, other.rows(), plans.rows())
            for thing in (None, 0, plans.rows(), made(rows), "Plans"):
                self.assertFalse(plans == thing)
        for (rows, one), (more, two) in zip(told, told[1:]):
            self.assertIs(one == two, one.rows() == two.rows())

    def test_worths(self):
        rng = random.Random(136)
        lacking = worths = 0
        for rows, tree, given in [*cases(137, 150), *cases(138, 20, nodes=60, share=1, calm=True)]:
            if not is_fit(rows) or ring_ahead(made(rows)) is not None:
                continue
            due = Due(rows, tree, given)
            plans = Plans(made(rows))
            told = plans.worths(tree, given=given)
            same(self, told, [(*spot, due.known[spot]) for spot in due.spots])
            same(self, told, by_demand(made(rows), tree, given=given))
            lacking += None in due.known.values()
            worths += sum(number is not None for number in due.known.values())
            told.clear()
            same(self, plans.worths(tree), by_demand(made(rows), tree))
        self.assertGreater(lacking, 40)
        self.assertGreater(worths, 300)

    def test_no_row(self):
        rng = random.Random(139)
        for rows, plans in [*planned(140, 12), (TWICE, Plans(made(TWICE)))]:
            found = plans.rows()
            shown = {repr(row[:3]) for row in found}
            wrong = [(thing, (), ()) for thing in THINGS] + [(thing, thing, thing) for thing in THINGS]
            for making, graphs, order, steps in rng.sample(found, min(3, len(found))):
                wrong += [(making, graphs, thing) for thing in THINGS] + [(making, thing, order) for thing in THINGS]
                wrong += [(making, (*graphs, thing), order) for thing in THINGS]
                wrong += [(making, graphs, (*order, thing)) for thing in THINGS]
                wrong += [(making, tuple([(thing,)] + list(graphs[1:])), order) for thing in THINGS]
                key = list(spoilt((making, graphs, order)))
                wrong += [thing for thing in rng.sample(key, min(100, len(key))) if type(thing) is tuple and len(thing) == 3]
            for key in wrong:
                if repr(key) not in shown:
                    ahead = repr(key)
                    self.refused(NoRow, "making", key[0], plans.steps_for, *key)
                    self.assertEqual(repr(key), ahead)
            same(self, plans.rows(), found)


class HandedIn(Asking):
    def test_no_tree_then_no_given(self):
        plans = Plans(made(LETS))
        tree = ("root", 0, (("leaf", 1, ()),))
        for thing in [*THINGS, *spoilt(tree)]:
            try:
                by_demand(made(LETS), thing)
            except NoTree:
                self.refused(NoTree, "thing", thing, plans.worths, thing)
                self.refused(NoTree, "thing", thing, plans.worths, thing, given=7)
        for given in [*THINGS, [("env", 1)], [("out", 1)], (("env", 1),)]:
            if given not in ([], ()):
                self.refused(NoGiven, "thing", given, plans.worths, tree, given=given)
        for given in [[("env", -1)], [("env", True)], [("env", 10 ** 6)], [("env", 1), ("env", 1)], [["env", 1]]]:
            self.refused(NoGiven, "thing", given, plans.worths, ("use", 0, ()), given=given)

    def test_what_is_told_is_the_askers_own(self):
        for rows, plans in [*planned(141, 30), (TWICE, Plans(made(TWICE)))]:
            kept = copied(plans.rows())
            plans.rows().clear()
            told = plans.rows()
            told.append(None)
            told.reverse()
            same(self, plans.rows(), kept)
            self.assertIsNot(plans.rows(), plans.rows())
            same(self, len(plans), len(kept))

    def test_later_changes_are_not_seen(self):
        rng = random.Random(142)
        for rows in fit_grammars(143, 40):
            if ring_ahead(made(rows)) is not None:
                continue
            handed = [list(part) for part in rows[:3]]
            plans = Plans(Grammar(*handed, cap=rows[3]))
            for part in handed:
                part.clear()
            same(self, plans.rows(), Plans(made(rows)).rows())
            for tree in trees_by_chance(rng, rows, 1, 9):
                given = []
                told = plans.worths(tree, given=given)
                given.append(("x", 1))
                same(self, plans.worths(tree), told)


if __name__ == "__main__":
    unittest.main()
