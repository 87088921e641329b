import random
import unittest

from helper import LETS, THINGS, Asking, PlansDue, copied, fit_grammars, made, same, shuffled, spoilt
from threereckons.grammar import Grammar
from threereckons.plancheck import shows_plans
from threereckons.plans import Plans
from threereckons.rings import ring_ahead

D, U = ("at", 0, "d"), ("at", 0, "u")
# Nothing hands anything on, so any order does.
FREE = ([("s", ("d",), ("u",))], [("m", "s", ("s",)), ("z", "s", ())], [("z", U, "copy", (("own",),))], 0)
CHAIN = (
    [("s", ("d",), ("u",))], [("n", "s", ("s",)), ("z", "s", ())],
    [("n", ("at", 1, "d"), "copy", (D,)), ("n", U, "plus", (("at", 1, "u"), ("kept", "k"))), ("n", ("kept", "k"), "copy", (D,)),
     ("z", U, "copy", (D,))], 0,
)
RINGED = ([("s", ("d",), ("u",))], [("m", "s", ("s",)), ("z", "s", ())],
          [("m", ("at", 1, "d"), "copy", (("at", 1, "u"),)), ("z", U, "copy", (D,))], 3)


def calm(seed, many, **told):
    return [rows for rows in fit_grammars(seed, many, **told) if ring_ahead(made(rows)) is None]


class Shown(Asking):
    def due(self, rows, thing, words=None):
        words = PlansDue(rows) if words is None else words
        shown = repr(thing)
        found = words.so(thing)
        same(self, shows_plans(made(rows), thing), found)
        self.assertEqual(repr(thing), shown)
        return found

    def test_written_out(self):
        order, turned = ("d", "u"), ("u", "d")
        z, z_turned = ("z", (), order, (D, U)), ("z", (), turned, (U, D))
        one, two = ("at", 1, "d"), ("at", 1, "u")
        m = ("m", ((),), order, (D, one, two, U))
        grammar = made(FREE)
        self.assertIs(shows_plans(grammar, [z, m]), True)
        self.assertIs(shows_plans(thing=[m, z], grammar=grammar), True)
        # Of the part the order that the steps have must stand.
        m_turned = ("m", ((),), order, (two, D, one, U))
        self.assertIs(shows_plans(grammar, [z, m_turned]), False)
        self.assertIs(shows_plans(grammar, [z, m_turned, z_turned]), False)
        both = ("m", ((),), turned, (two, U, D, one))
        self.assertIs(shows_plans(grammar, [z, m_turned, z_turned, both]), True)
        # No root has the order d, u now, but z and m stand with u, d.
        self.assertIs(shows_plans(grammar, [z_turned, both]), True)
        self.assertIs(shows_plans(grammar, [z, both]), False)
        self.assertIs(shows_plans(grammar, [z_turned, m]), False)
        # More than there must be, and nothing has to stand behind it.
        self.assertIs(shows_plans(grammar, [z, z_turned, m]), True)
        self.assertIs(shows_plans(grammar, [z, m, m]), False)
        # The same row made in another way is twice the same one, too.
        self.assertIs(shows_plans(grammar, [z, m, ("m", ((),), order, (one, D, two, U))]), False)
        self.assertIs(shows_plans(grammar, [z, m, ("m", ((),), order, (D, one, two))]), False)
        self.assertIs(shows_plans(grammar, [z]), False)
        self.assertIs(shows_plans(grammar, []), False)
        self.assertIs(shows_plans(grammar, (z, m)), False)

    def test_needs_and_graphs_are_kept_to(self):
        rows = Plans(made(CHAIN)).rows()
        self.assertTrue(self.due(CHAIN, rows))
        many = 0
        for at, (making, graphs, order, steps) in enumerate(rows):
            for first in range(len(steps)):
                for second in range(first):
                    turned = list(steps)
                    turned[first], turned[second] = turned[second], turned[first]
                    many += self.due(CHAIN, rows[:at] + [(making, graphs, order, tuple(turned))] + rows[at + 1:])
        # Only the last but one and the one ahead of it may change places, as the least is taken first.
        self.assertEqual(many, 1)

    def test_grammars_without_rows(self):
        for rows in (([], [], [], 0), ([("s", ("d",), ())], [], [], 2), ([("s", (), ())], [("m", "s", ("s",))], [], 0)):
            self.assertTrue(self.due(rows, []))
            for thing in THINGS:
                self.due(rows, thing)
                self.due(rows, [thing])
            self.assertFalse(self.due(rows, [("m", ((),), (), ())]))

    def test_no_tree_has_a_ring(self):
        words = PlansDue(RINGED)
        rows = [("z", (), ("d", "u"), (D, U)), ("m", ((),), ("d", "u"), (D, U, ("at", 1, "u"), ("at", 1, "d"))),
                ("z", (), ("u", "d"), (U, D)), ("m", ((),), ("u", "d"), (U, D, ("at", 1, "u"), ("at", 1, "d")))]
        for thing in (rows, rows[:1], rows[:2], []):
            self.assertFalse(self.due(RINGED, thing, words))
        for rows in fit_grammars(151, 100):
            if ring_ahead(made(rows)) is not None:
                self.assertIs(shows_plans(made(rows), []), False)

    def test_a_spot_that_needs_itself(self):
        for terms in ((("kept", "k"),), (("own",),)):
            rows = ([("s", (), ("u",))], [("z", "s", ())], [("z", ("kept", "k"), "copy", terms), ("z", U, "copy", (("kept", "k"),))], 4)
            told = [("z", (), ("u",), (("kept", "k"), U))]
            self.assertEqual(self.due(rows, told), terms == (("own",),))

    def test_what_plans_tell(self):
        rng = random.Random(152)
        for rows in [LETS, FREE, CHAIN, *calm(153, 150)]:
            told = Plans(made(rows)).rows()
            self.assertIs(shows_plans(made(rows), told), True)
            self.assertIs(shows_plans(made(shuffled(rng, rows)), rng.sample(told, len(told))), True)

    def test_other_ways_of_taking(self):
        rng = random.Random(154)
        other = 0
        for rows in [FREE, CHAIN, *calm(155, 100)]:
            words = PlansDue(rows)
            for choose in (max, rng.choice, rng.choice):
                thing = words.closed(words.roots(choose), choose)
                other += thing != Plans(made(rows)).rows()
                self.assertTrue(self.due(rows, thing, words))
        self.assertGreater(other, 60)

    def test_more_rows(self):
        rng = random.Random(156)
        more = 0
        for rows in [FREE, CHAIN, *calm(157, 80)]:
            words = PlansDue(rows)
            roots = words.roots() + words.roots(max) + words.roots(rng.choice)
            thing = words.closed(roots, max)
            more += len(thing) > len(Plans(made(rows)).rows())
            self.assertTrue(self.due(rows, thing, words))
            # One order of a sort and a graph, of some makings alone, stands as well where all is behind it.
            start = [due for due in words.closed(words.roots(rng.choice), rng.choice) if due not in thing]
            for row in start[:4]:
                self.due(rows, thing + [row], words)
        self.assertGreater(more, 20)

    def test_a_row_left_out_or_twice(self):
        rng = random.Random(158)
        missed = 0
        for rows in [LETS, FREE, CHAIN, *calm(159, 70)]:
            words = PlansDue(rows)
            thing = Plans(made(rows)).rows()
            for at in rng.sample(range(len(thing)), min(8, len(thing))):
                missed += not self.due(rows, thing[:at] + thing[at + 1:], words)
                self.assertFalse(self.due(rows, thing[:at + 1] + thing[at:], words))
                other = words.steps_by(*thing[at][:3], choose=max)
                self.due(rows, thing[:at] + [(*thing[at][:3], other)] + thing[at + 1:], words)
                self.assertFalse(self.due(rows, thing + [(*thing[at][:3], other)], words))
        self.assertGreater(missed, 60)

    def test_spoilt(self):
        for rows in (FREE, CHAIN):
            words = PlansDue(rows)
            for thing in spoilt(Plans(made(rows)).rows()):
                self.due(rows, thing, words)
        rng = random.Random(160)
        for rows in [LETS, *calm(161, 60)]:
            words = PlansDue(rows)
            told = Plans(made(rows)).rows()
            if told:
                at = rng.randrange(len(told))
                things = list(spoilt(told[at]))
                for thing in rng.sample(things, min(120, len(things))):
                    self.due(rows, told[:at] + [thing] + told[at + 1:], words)
                    self.due(rows, told + [thing], words)

    def test_truths_for_places(self):
        rows = Plans(made(CHAIN)).rows()
        for at, (making, graphs, order, steps) in enumerate(rows):
            for place, step in enumerate(steps):
                if step[0] == "at" and step[1] < 2:
                    wrong = (*steps[:place], ("at", bool(step[1]), step[2]), *steps[place + 1:])
                    self.assertEqual(wrong, steps)
                    thing = rows[:at] + [(making, graphs, order, wrong)] + rows[at + 1:]
                    self.assertIs(shows_plans(made(CHAIN), thing), False)

    def test_things_of_any_make(self):
        words = PlansDue(CHAIN)
        told = Plans(made(CHAIN)).rows()
        for thing in THINGS:
            for whole in (thing, [thing], told + [thing], [thing] + told[1:], (thing,)):
                self.due(CHAIN, whole, words)
            for at in range(4):
                row = list(told[0])
                row[at] = thing
                self.due(CHAIN, [tuple(row)] + told[1:], words)
                self.due(CHAIN, [row] + told[1:], words)
            making, graphs, order, steps = told[0]
            for row in ((making, (thing,), order, steps), (making, ((thing,),), order, steps), (making, graphs, (thing,), steps),
                        (making, graphs, ("d", thing), steps), (making, graphs, order, (thing,)),
                        (making, graphs, order, (*steps[:-1], thing)), (making, graphs, order, (("at", thing, "d"), *steps[1:])),
                        (making, graphs, order, (("at", 0, thing), *steps[1:])), (making, (((thing, "u"),),), order, steps)):
                self.due(CHAIN, [row] + told[1:], words)

    def test_rows_of_another_grammar(self):
        told = [(rows, Plans(made(rows)).rows()) for rows in [FREE, CHAIN, LETS, *calm(162, 30)]]
        for rows, found in told:
            words = PlansDue(rows)
            for more, other in told[:12]:
                self.due(rows, copied(other), words)

    def test_graphs_that_no_tree_has(self):
        thing = Plans(made(FREE)).rows() + [("m", ((("d", "u"),),), ("d", "u"), (D, ("at", 1, "d"), ("at", 1, "u"), U))]
        self.assertIs(shows_plans(made(FREE), thing), False)
        empty = Grammar([("s", (), ())], [("m", "s", ("s",))], [])
        self.assertIs(shows_plans(empty, [("m", ((),), (), ())]), False)


if __name__ == "__main__":
    unittest.main()
