import random
import unittest

from helper import (
    LETS, THINGS, TOP, Asking, Due, anew_due, cases, copied, exchanged, grammars_by_chance, made, no_spots,
    number_by_chance, places, same, size_of, sort_due, spoilt, tree_by_chance, trees_by_chance, walk, worths_of,
)
from threereckons.demand import by_demand
from threereckons.errors import NoGiven, NoNode, NoSpot, NoTree, Ring
from threereckons.grammar import Grammar
from threereckons.upkeep import Upkeep

TREE = ("root", 1, (("let", 3, (("leaf", 4, ()), ("use", 0, ()))),))
CHAIN = (
    [("s", ("d",), ("u",))], [("n", "s", ("s",)), ("p", "s", ("s", "s")), ("z", "s", ()), ("back", "s", ("s",))],
    [("n", ("at", 1, "d"), "plus", (("at", 0, "d"), ("number", 1))), ("n", ("at", 0, "u"), "copy", (("at", 1, "u"),)),
     ("z", ("at", 0, "u"), "plus", (("at", 0, "d"), ("own",))), ("p", ("at", 1, "d"), "copy", (("at", 0, "d"),)),
     ("p", ("at", 2, "d"), "copy", (("at", 1, "u"),)), ("p", ("at", 0, "u"), "plus", (("at", 1, "u"), ("at", 2, "u"))),
     ("back", ("at", 1, "d"), "copy", (("at", 1, "u"),))], 0,
)


def chain(places, leaf=("z", 0, ())):
    for step in range(places):
        leaf = ("n", 0, (leaf,))
    return leaf


def wide(nodes):
    """A tree of so many nodes, an uneven number, of few places."""
    trees = [("z", at, ()) for at in range((nodes + 1) // 2)]
    while len(trees) > 1:
        trees.append(("p", 0, (trees.pop(0), trees.pop(0))))
    return trees[0]


class Model:
    """What an Upkeep must tell, by the words of the document."""

    def __init__(self, rows, tree, given):
        self.rows = rows
        self.states = [(tree, dict(given), Due(rows, tree, given))]
        self.reckoned = len(self.states[0][2].rules)

    def tree(self):
        return self.states[-1][0]

    def given(self):
        return dict(self.states[-1][1])

    def due(self):
        return self.states[-1][2]

    def behind(self, tree, given):
        return Due(self.rows, tree, list(given.items()))

    def do(self, tree, given, put, due):
        many = anew_due(self.due(), due, put)
        self.states.append((tree, given, due))
        self.reckoned += many
        return many


class Keeping(Asking):
    def alike(self, upkeep, model):
        due = model.due()
        same(self, upkeep.tree(), model.tree())
        same(self, upkeep.given(), sorted(model.given().items()))
        same(self, upkeep.deeds(), len(model.states) - 1)
        same(self, upkeep.reckoned(), model.reckoned)
        told = upkeep.worths()
        same(self, told, [(*spot, due.known[spot]) for spot in due.spots])
        return told

    def alike_in_all(self, upkeep, model):
        due = model.due()
        told = self.alike(upkeep, model)
        same(self, told, by_demand(made(model.rows), model.tree(), given=sorted(model.given().items())))
        for spot in due.spots:
            same(self, upkeep.worth(*spot), due.known[spot])
            same(self, upkeep.road(*spot), due.road(spot) if due.known[spot] is None else [])

    def put(self, upkeep, model, path, part):
        whole = exchanged(model.tree(), path, part)
        due = model.behind(whole, model.given())
        hanging = [spot for spot in due.spots if spot in due.hang]
        if hanging:
            self.refused(Ring, "ring", due.ring_from(hanging[0]), upkeep.put, path, part)
            return False
        same(self, upkeep.put(path, part), model.do(whole, model.given(), path, due))
        return True

    def mark(self, upkeep, model, path, own):
        making, number, parts = dict(walk(model.tree()))[path]
        whole = exchanged(model.tree(), path, (making, own, parts))
        same(self, upkeep.mark(path, own), model.do(whole, model.given(), None, model.behind(whole, model.given())))

    def give(self, upkeep, model, down, number):
        given = model.given()
        given.pop(down, None)
        if number is not None:
            given[down] = number
        same(self, upkeep.give(down, number), model.do(model.tree(), given, None, model.behind(model.tree(), given)))

    def undo(self, upkeep, model):
        same(self, upkeep.undo(), len(model.states) > 1)
        if len(model.states) > 1:
            model.states.pop()


class WrittenOut(Keeping):
    def test_let(self):
        upkeep = Upkeep(made(LETS), TREE)
        first = [
            ((), "out", 10), ((), "size", None), ((1,), "env", 5), ((1,), "val", 25), ((1,), "extra", 21),
            ((1, 1), "env", 5), ((1, 1), "val", 4), ((1, 2), "env", 25), ((1, 2), "val", 25),
        ]
        same(self, upkeep.worths(), first)
        same(self, upkeep.reckoned(), 8)
        same(self, upkeep.deeds(), 0)
        same(self, upkeep.undo(), False)
        # The leaf's up, the down it's handed to, the up of that one, of let, of root.
        same(self, upkeep.mark((1, 1), 9), 5)
        same(self, upkeep.worth((1, 2), "val"), 30)
        same(self, upkeep.mark((1, 1), 9), 0)
        same(self, upkeep.mark((), 8), 1)
        same(self, upkeep.deeds(), 3)
        same(self, upkeep.reckoned(), 14)
        # The part's one rule; the down of it is of the node ahead, and needs nothing else now; up to root.
        same(self, upkeep.put((1, 2), ("leaf", 0, ())), 3)
        same(self, upkeep.worth((), "out"), 8)
        same(self, upkeep.tree(), ("root", 8, (("let", 3, (("leaf", 9, ()), ("leaf", 0, ()))),)))
        # The same part again: its own rule, and nothing else.
        same(self, upkeep.put((1, 2), ("leaf", 0, ())), 1)
        same(self, upkeep.put((1,), ("use", 0, ())), 2)
        same(self, upkeep.worth((1,), "val"), 5)
        same(self, upkeep.road((), "size"), [((), "size")])
        same(self, upkeep.road((), "out"), [])
        same(self, upkeep.reckoned(), 20)
        for left in range(5, -1, -1):
            same(self, upkeep.undo(), True)
            same(self, upkeep.deeds(), left)
        same(self, upkeep.undo(), False)
        same(self, upkeep.worths(), first)
        same(self, upkeep.tree(), TREE)
        same(self, upkeep.reckoned(), 20)

    def test_by_the_names_written(self):
        upkeep = Upkeep(grammar=made(CHAIN), tree=chain(1), given=[("d", 2)])
        same(self, upkeep.put(part=("z", 5, ()), path=(1,)), 2)
        same(self, upkeep.mark(own=6, path=(1,)), 2)
        same(self, upkeep.give(number=3, down="d"), 3)
        same(self, upkeep.worth(name="u", path=()), 10)
        same(self, upkeep.road(name="u", path=()), [])
        with self.assertRaises(TypeError):
            Upkeep(made(CHAIN), chain(1), [("d", 2)])

    def test_given(self):
        upkeep = Upkeep(made(CHAIN), chain(2), given=())
        same(self, upkeep.given(), [])
        same(self, upkeep.reckoned(), 5)
        road = [((), "u"), ((1,), "u"), ((1, 1), "u"), ((1, 1), "d"), ((1,), "d"), ((), "d")]
        same(self, upkeep.road((), "u"), road)
        same(self, upkeep.give("d", None), 0)
        same(self, upkeep.give("d", 4), 5)
        same(self, upkeep.worth((), "u"), 6)
        same(self, upkeep.road((), "u"), [])
        same(self, upkeep.give("d", 4), 0)
        same(self, upkeep.give("d", TOP), 5)
        same(self, upkeep.given(), [("d", TOP)])
        same(self, upkeep.give("d", None), 5)
        same(self, upkeep.worth((), "u"), None)
        same(self, upkeep.deeds(), 5)
        # A part put where it lacks has its rules reckoned; the one ahead lacks as it did.
        same(self, upkeep.put((1,), ("z", 3, ())), 1)
        same(self, upkeep.give("d", 0), 3)
        same(self, upkeep.put((), ("z", 3, ())), 1)
        same(self, upkeep.given(), [("d", 0)])
        same(self, upkeep.worth((), "u"), 3)

    def test_beyond_the_cap(self):
        upkeep = Upkeep(Grammar(*CHAIN[:3], cap=5), chain(1), given=[("d", 7)])
        same(self, upkeep.worth((), "d"), 5)
        same(self, upkeep.give("d", 9), 0)
        same(self, upkeep.given(), [("d", 9)])
        same(self, upkeep.give("d", 5), 0)
        same(self, upkeep.give("d", 4), 1)
        same(self, upkeep.give("d", 3), 3)
        # It bears another number, though that counts as the cap, too.
        same(self, upkeep.mark((1,), 6), 2)
        same(self, upkeep.mark((1,), 8), 1)
        same(self, upkeep.worth((), "u"), 5)
        same(self, upkeep.tree(), chain(1, ("z", 8, ())))

    def test_changed_to_none_and_back(self):
        rules = [("m", ("at", 0, "u"), "over", (("number", 12), ("own",))), ("m", ("kept", "k"), "copy", (("kept", "j"),)),
                 ("m", ("kept", "j"), "least", (("own",), ("number", 1)))]
        rules += [("t", ("at", 0, "u"), "pick", (("number", 0), ("at", 1, "u"), ("own",)))]
        upkeep = Upkeep(Grammar([("s", (), ("u",))], [("m", "s", ()), ("t", "s", ("s",))], rules), ("t", 7, (("m", 3, ()),)))
        same(self, upkeep.mark((1,), 4), 3)
        same(self, upkeep.worth((), "u"), 7)
        same(self, upkeep.mark((1,), 0), 4)
        same(self, upkeep.worth((), "u"), None)
        same(self, upkeep.road((), "u"), [((), "u"), ((1,), "u")])
        same(self, upkeep.mark((1,), 6), 4)
        same(self, upkeep.worth((), "u"), 7)

    def test_just_so_great_and_one_beyond(self):
        upkeep = Upkeep(made(CHAIN), ("p", 0, (("z", 1, ()), ("z", 2, ()))), given=[("d", 0)])
        self.assertEqual(size_of(wide(57)), 57)
        upkeep.put((1,), ("n", 0, (wide(57),)))
        self.assertEqual(size_of(upkeep.tree()), 60)
        for part in (wide(3), chain(1)):
            self.refused(NoTree, "thing", part, upkeep.put, (2,), part)
        upkeep.put((2,), ("z", 9, ()))
        self.assertEqual(upkeep.deeds(), 2)
        upkeep = Upkeep(made(CHAIN), ("p", 0, (chain(29), ("z", 2, ()))), given=[("d", 0)])
        upkeep.put((2,), chain(28))
        self.assertEqual(size_of(upkeep.tree()), 60)
        self.refused(NoTree, "thing", chain(1), upkeep.put, (1,) + (1,) * 29, chain(1))
        upkeep.put((2,), chain(2))
        self.refused(NoTree, "thing", chain(1), upkeep.put, (1,) + (1,) * 29, chain(1))
        self.refused(NoTree, "thing", chain(30), upkeep.put, (2,), chain(30))
        upkeep.put((1,) * 29, chain(1))
        self.assertEqual(max(len(path) for path, node in walk(upkeep.tree())), 30)
        upkeep.put((), chain(30))
        self.refused(NoTree, "thing", chain(31), upkeep.put, (), chain(31))
        self.assertEqual(upkeep.tree(), chain(30))

    def test_rings(self):
        upkeep = Upkeep(made(CHAIN), chain(2), given=[("d", 1)])
        kept = upkeep.worths()
        part = ("back", 0, (chain(0),))
        due = Due(CHAIN, ("n", 0, (part,)), [("d", 1)])
        first = [spot for spot in due.spots if spot in due.hang][0]
        self.refused(Ring, "ring", due.ring_from(first), upkeep.put, (1,), part)
        same(self, upkeep.worths(), kept)
        same(self, upkeep.deeds(), 0)
        same(self, upkeep.reckoned(), 5)
        for given in ((), [("d", 1)]):
            self.refused(Ring, "ring", due.ring_from(first), Upkeep, made(CHAIN), ("n", 0, (part,)), given=given)

    def test_one_refusal_ahead_of_another(self):
        upkeep = Upkeep(made(CHAIN), chain(2))
        self.refused(NoNode, "path", (2,), upkeep.put, (2,), None)
        self.refused(NoNode, "path", (1, True), upkeep.put, (1, True), ("x", 0, ()))
        self.refused(NoNode, "path", (1, 1, 1), upkeep.mark, (1, 1, 1), -1)
        # Beyond the bounds and a ring at once.
        great = ("back", 0, (chain(31),))
        self.refused(NoTree, "thing", great, upkeep.put, (1,), great)
        self.refused(NoTree, "thing", ("x", 0, ()), Upkeep, made(CHAIN), ("x", 0, ()), given=0)
        self.refused(NoGiven, "thing", 0, Upkeep, made(CHAIN), ("back", 0, (chain(0),)), given=0)
        self.refused(NoGiven, "thing", ("u", -1), upkeep.give, "u", -1)

    def test_twins(self):
        one = Upkeep(made(CHAIN), chain(2), given=[("d", 1)])
        one.mark((1, 1), 3)
        one.put((1,), chain(0))
        two = one.twin()
        self.assertIs(type(two), Upkeep)
        for upkeep in (one, two):
            same(self, upkeep.deeds(), 2)
            same(self, upkeep.reckoned(), 5 + 3 + 2)
        two.undo()
        two.mark((1, 1), 8)
        one.give("d", 5)
        same(self, one.tree(), chain(1))
        same(self, two.tree(), chain(2, ("z", 8, ())))
        same(self, [one.deeds(), two.deeds()], [3, 2])
        same(self, [one.given(), two.given()], [[("d", 5)], [("d", 1)]])
        same(self, [one.reckoned(), two.reckoned()], [13, 13])
        three = two.twin().twin()
        same(self, [three.undo(), three.undo(), three.undo()], [True, True, False])
        same(self, three.worths(), Upkeep(made(CHAIN), chain(2), given=[("d", 1)]).worths())
        same(self, two.deeds(), 2)


def deed_by_chance(rng, test, rows, upkeep, model):
    """One deed, alike in both."""
    nodes = walk(model.tree())
    path, node = rng.choice(nodes)
    kind = rng.choice(["put", "put", "mark", "mark", "give", "give", "undo"])
    downs, ups = worths_of(rows, model.tree()[0])
    if kind == "put":
        room = 60 - size_of(model.tree()) + size_of(node)
        part = rng.choice([node, tree_by_chance(rng, rows[1], places(rows[1], node[0])[0], rng.randint(1, min(room, 12)))])
        whole = exchanged(model.tree(), path, part)
        if size_of(whole) > 60 or max(len(at) for at, each in walk(whole)) > 30:
            test.refused(NoTree, "thing", part, upkeep.put, path, part)
        else:
            test.put(upkeep, model, path, part)
    elif kind == "mark":
        test.mark(upkeep, model, path, rng.choice([node[1], number_by_chance(rng)]))
    elif kind == "give" and downs:
        test.give(upkeep, model, rng.choice(downs), rng.choice([None, 0, 3, number_by_chance(rng)]))
    else:
        test.undo(upkeep, model)


class ByChance(Keeping):
    def started(self, rows, tree, given):
        due = Due(rows, tree, given)
        hanging = [spot for spot in due.spots if spot in due.hang]
        if hanging:
            self.refused(Ring, "ring", due.ring_from(hanging[0]), Upkeep, made(rows), tree, given=given)
            return None, None
        return Upkeep(made(rows), tree, given=given), Model(rows, tree, given)

    def test_many_deeds(self):
        rng = random.Random(171)
        counts = []
        for rows, tree, given in [*cases(172, 60, nodes=12), *cases(173, 40, nodes=12, calm=True)]:
            upkeep, model = self.started(rows, tree, given)
            if upkeep is None:
                continue
            self.alike_in_all(upkeep, model)
            for step in range(12):
                deed_by_chance(rng, self, rows, upkeep, model)
                self.alike(upkeep, model)
            self.alike_in_all(upkeep, model)
            counts.append(model.reckoned)
            while len(model.states) > 1:
                self.undo(upkeep, model)
                self.alike(upkeep, model)
            self.undo(upkeep, model)
            self.alike_in_all(upkeep, model)
            same(self, upkeep.tree(), tree)
        self.assertGreater(len(counts), 100)
        self.assertGreater(sum(counts), 2000)

    def test_sixty_deeds_of_sixty_nodes(self):
        rng = random.Random(174)
        for rows in (CHAIN, (CHAIN[0], CHAIN[1], CHAIN[2], 9)):
            tree = ("n", 0, (wide(59),))
            upkeep, model = self.started(rows, tree, [("d", 2)])
            while upkeep.deeds() < 60:
                path, node = rng.choice(walk(model.tree()))
                kind = rng.random()
                if kind < 0.5:
                    self.mark(upkeep, model, path, rng.choice([0, 1, 5, TOP]))
                elif kind < 0.9:
                    self.put(upkeep, model, path, rng.choice([node, ("z", rng.randrange(9), ())]))
                else:
                    self.give(upkeep, model, "d", rng.choice([None, 1, 2, 8]))
                self.alike(upkeep, model)
                if size_of(model.tree()) < 20:
                    self.put(upkeep, model, (), tree)
            self.alike_in_all(upkeep, model)
            for step in range(61):
                self.undo(upkeep, model)
                self.alike(upkeep, model)
            same(self, upkeep.tree(), tree)
            same(self, upkeep.deeds(), 0)

    def test_twins_go_on_by_themselves(self):
        rng = random.Random(175)
        for rows, tree, given in cases(176, 50, nodes=8, calm=True):
            upkeep, model = self.started(rows, tree, given)
            if upkeep is None:
                continue
            pairs = [(upkeep, model)]
            for step in range(10):
                deed_by_chance(rng, self, rows, *rng.choice(pairs))
                if rng.random() < 0.3:
                    one, due = rng.choice(pairs)
                    other = Model(rows, tree, given)
                    other.states, other.reckoned = list(due.states), due.reckoned
                    pairs.append((one.twin(), other))
            for one, due in pairs:
                self.alike_in_all(one, due)
                while len(due.states) > 1:
                    self.undo(one, due)
                self.alike_in_all(one, due)


class Refusals(Keeping):
    def test_no_node(self):
        rng = random.Random(177)
        for rows, tree, given in cases(178, 15, nodes=6, calm=True):
            upkeep, model = Upkeep(made(rows), tree, given=given), Model(rows, tree, given)
            shown = {repr(path) for path, node in walk(tree)}
            paths = THINGS + [thing for path, node in walk(tree)[:5] for thing in spoilt(path)]
            for path in paths:
                if repr(path) not in shown:
                    ahead = repr(path)
                    self.refused(NoNode, "path", path, upkeep.put, path, rng.choice([tree, None, []]))
                    self.refused(NoNode, "path", path, upkeep.mark, path, rng.choice([0, -1, None]))
                    self.assertEqual(repr(path), ahead)
            self.alike_in_all(upkeep, model)

    def test_no_tree(self):
        upkeep, model = Upkeep(made(LETS), TREE), Model(LETS, TREE, [])
        upkeep.mark((), 1)
        model.do(TREE, {}, None, model.due())
        parts = [*THINGS, TREE, ("root", 0, (("leaf", 0, ()),)), *spoilt(("let", 0, (("leaf", 1, ()), ("use", 0, ()))))]
        refused = 0
        for path, node in walk(TREE):
            sort = places(LETS[1], node[0])[0]
            for part in parts:
                if sort_due(LETS[1], part) != sort:
                    self.refused(NoTree, "thing", part, upkeep.put, path, part)
                    refused += 1
            for own in THINGS:
                if type(own) is not int or not 0 <= own <= TOP:
                    self.refused(NoTree, "thing", own, upkeep.mark, path, own)
        self.assertGreater(refused, 300)
        self.alike_in_all(upkeep, model)

    def test_no_given(self):
        rows = ([("s", ("d", "e"), ("u",))], [("m", "s", ("s",)), ("z", "s", ())], [("m", ("kept", "k"), "copy", (("own",),))], 0)
        tree = ("m", 0, (("z", 0, ()),))
        upkeep, model = Upkeep(made(rows), tree, given=[("e", 3)]), Model(rows, tree, [("e", 3)])
        for thing in THINGS:
            self.refused(NoGiven, "thing", (thing, 1), upkeep.give, thing, 1)
            self.refused(NoGiven, "thing", (thing, None), upkeep.give, thing, None)
            if thing is not None and (type(thing) is not int or not 0 <= thing <= TOP):
                self.refused(NoGiven, "thing", ("d", thing), upkeep.give, "d", thing)
            self.refused(NoGiven, "thing", ("u", thing), upkeep.give, "u", thing)
            self.refused(NoGiven, "thing", ("k", thing), upkeep.give, "k", thing)
        self.alike_in_all(upkeep, model)
        self.give(upkeep, model, "d", 8)
        self.give(upkeep, model, "e", 0)
        self.alike_in_all(upkeep, model)

    def test_no_spot(self):
        rng = random.Random(179)
        for rows, tree, given in cases(180, 12, nodes=6, calm=True):
            upkeep, model = Upkeep(made(rows), tree, given=given), Model(rows, tree, given)
            for thing in no_spots(rng, model.due().spots):
                if type(thing) is tuple and len(thing) == 2:
                    self.refused(NoSpot, "spot", thing, upkeep.worth, *thing)
                    self.refused(NoSpot, "spot", thing, upkeep.road, *thing)
            self.alike_in_all(upkeep, model)

    def test_as_by_demand(self):
        rng = random.Random(181)
        things = [*THINGS, *spoilt(("root", 0, (("leaf", 1, ()),)))]
        for tree in things:
            for given in ((), [], 3, [("env", 1)]):
                try:
                    due = by_demand(made(LETS), tree, given=given)
                except (NoTree, NoGiven) as caught:
                    self.refused(type(caught), "thing", caught.thing, Upkeep, made(LETS), tree, given=given)
                else:
                    same(self, Upkeep(made(LETS), tree, given=given).worths(), due)
        rings = 0
        for rows in grammars_by_chance(182, 120):
            for tree in trees_by_chance(rng, rows, 1, 12):
                try:
                    by_demand(made(rows), tree)
                except Ring as caught:
                    rings += 1
                    self.refused(Ring, "ring", caught.ring, Upkeep, made(rows), tree)
        self.assertGreater(rings, 10)


class HandedIn(Keeping):
    def test_what_is_told_is_the_askers_own(self):
        rng = random.Random(183)
        for rows, tree, given in cases(184, 40, nodes=8, calm=True):
            handed = copied(given)
            upkeep, model = Upkeep(made(rows), tree, given=handed), Model(rows, tree, given)
            same(self, handed, given)
            handed.append(("x", 1))
            handed.reverse()
            for step in range(4):
                deed_by_chance(rng, self, rows, upkeep, model)
                for ask in (upkeep.worths, upkeep.given):
                    told, other = ask(), ask()
                    self.assertIsNot(told, other)
                    told.append(None)
                    other.clear()
                for spot in model.due().spots:
                    told = upkeep.road(*spot)
                    self.assertIsNot(told, upkeep.road(*spot))
                    told.append(None)
                self.alike_in_all(upkeep, model)
            twin = upkeep.twin()
            twin.worths().clear()
            twin.given().append(("x", 1))
            self.alike_in_all(twin, model)

    def test_what_errors_bear_is_the_askers_own(self):
        upkeep = Upkeep(made(CHAIN), chain(2))
        for step in range(2):
            with self.assertRaises(Ring) as caught:
                upkeep.put((1,), ("back", 0, (chain(0),)))
            self.assertEqual(len(caught.exception.ring), 2)
            caught.exception.ring.clear()
        path = [1, [2]]
        with self.assertRaises(NoNode) as caught:
            upkeep.mark(path, 0)
        path[1].append(3)
        path.clear()
        same(self, caught.exception.path, [1, [2]])


if __name__ == "__main__":
    unittest.main()
