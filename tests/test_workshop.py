import random
import unittest

from helper import (
    LET_TEXT, THINGS, TOP, Asking, ShopDue, copied, made, number_by_chance, places, rows_of, same, size_of, tree_by_chance,
    walk, worths_of,
)
from threereckons.demand import by_demand
from threereckons.errors import BadRow, BadText, NoCap, NoGiven, NoName, NoNode, NoSpot, NoTree, Ring, Taken, TooMuch
from threereckons.grammar import Grammar
from threereckons.gramtext import grammar_in
from threereckons.resting import rest_of
from threereckons.treetext import tree_text
from threereckons.upkeep import Upkeep
from threereckons.workshop import Workshop

CHAIN = """sort s d / u
make n s s
make p s s s
make z s
make back s s
rule n 1.d plus 0.d 1
rule n 0.u copy 1.u
rule z 0.u plus 0.d own
rule p 1.d copy 0.d
rule p 2.d copy 1.u
rule p 0.u plus 1.u 2.u
rule back 1.d copy 1.u"""
CAPPED = "cap 4\n" + CHAIN + "\nrule z k most own 2\nrule z j plus j own"
SMALL = "cap 2\nsort t / v\nmake l t\nrule l 0.v copy own"
TEXTS = [LET_TEXT, CHAIN, "cap 4\n" + CHAIN, SMALL] * 3 + ["", "\n\n" + SMALL, "sort s", "sort s /\nmake m x", "make m s", "cap 0", "x"]
NAMES = ["a", "b", "c", "t", "v", "w", "x"]


def chain(places):
    return "n(" * places + "z" + ")" * places


def told_by(ask, *handed, **more):
    """What is told or refused, shown, so that both can be compared."""
    try:
        return ("told", repr(ask(*handed, **more)))
    except (BadRow, BadText, NoCap, NoGiven, NoName, NoNode, NoSpot, NoTree, Ring, Taken, TooMuch) as caught:
        return (type(caught).__name__, repr(vars(caught)))


def do(shop, step):
    """A deed of a Workshop, by its step."""
    word, *handed = step
    if word == "plant":
        name, grammar, text, given = handed
        return told_by(shop.plant, name, grammar, text, given=given)
    if word == "run":
        return told_by(shop.run, handed[0], whole=handed[1])
    return told_by(getattr(shop, word), *handed)


def path_by_chance(rng, model, name):
    if name not in model.trees() or rng.random() < 0.08:
        return rng.choice(THINGS)
    return rng.choice(walk(model.trees()[name][1]))[0]


def text_by_chance(rng, rows, sort, room):
    if rng.random() < 0.15:
        return rng.choice(["z", "leaf", "back(z)", "n(n(z))", "root(leaf)", "x", "n(", "own", "", "z:0", "p(z,z)", chain(31)])
    tree = tree_by_chance(rng, rows[1], sort, rng.randint(1, max(1, room)))
    return tree_text(tree) if tree else "x"


def deed_by_chance(rng, model):
    """A step, mostly one that can be done."""
    name = rng.choice(list(model.trees()) * 15 + NAMES)
    rows = model.trees()[name][0] if name in model.trees() else None
    lay, plant = 1 if model.grammars() else 30, 4 if model.trees() else 30
    word = rng.choice(["lay"] * lay + ["plant"] * plant + ["put", "mark", "give"] * 5 + ["uproot", "undo", "undo"])
    if word == "lay":
        return (word, rng.choice(NAMES[:3] * 3 + NAMES), rng.choice(TEXTS))
    if word == "plant":
        grammar = rng.choice(list(model.grammars()) * 10 + NAMES)
        rows = model.grammars().get(grammar, ([("s", (), ())], [("m", "s", ())], [], 0))
        sort = rng.choice(rows[0])[0] if rows[0] else "s"
        downs = [downs for each, downs, ups in rows[0] if each == sort]
        given = [(down, number_by_chance(rng)) for down in (downs[0] if downs else ()) if rng.random() < 0.7]
        return (word, rng.choice(NAMES[3:] * 3 + NAMES), grammar, text_by_chance(rng, rows, sort, 12), rng.choice([given] * 6 + [(), [("d", 1)], 7]))
    if word == "put":
        path = path_by_chance(rng, model, name)
        if rows is None or repr(path) not in [repr(each) for each, node in walk(model.trees()[name][1])]:
            return (word, name, path, rng.choice(["z", "x", "leaf", "("]))
        node = dict(walk(model.trees()[name][1]))[path]
        return (word, name, path, text_by_chance(rng, rows, places(rows[1], node[0])[0], 8))
    if word == "mark":
        return (word, name, path_by_chance(rng, model, name), rng.choice([0, 1, 5, TOP, number_by_chance(rng), -1, True]))
    if word == "give":
        downs = worths_of(rows, model.trees()[name][1][0])[0] if rows else ()
        return (word, name, rng.choice(list(downs) * 4 + ["d", "x"]), rng.choice([None, 0, 3, 4, 9, number_by_chance(rng), -1]))
    return (word, name) if word == "uproot" else (word,)


def run_by_chance(rng, model, deep=1):
    """A run, of steps that are drawn by how things are ahead of it, so that a later one may be refused."""
    steps = []
    for step in range(rng.randint(0, 5)):
        if deep < 3 and rng.random() < 0.3:
            steps.append(run_by_chance(rng, model, deep + 1))
        else:
            steps.append(deed_by_chance(rng, model))
    return ("run", steps, rng.random() < 0.6)


class Working(Asking):
    def alike(self, shop, model):
        same(self, shop.names(), (sorted(model.grammars()), sorted(model.trees())))
        same(self, shop.deeds(), len(model.states) - 1)
        same(self, shop.total(), model.total)
        same(self, shop.depth(), 0)
        same(self, shop.log(), model.log)
        for name, (rows, tree, given, due) in model.trees().items():
            same(self, shop.tree(name), tree_text(tree))
            same(self, shop.worths(name), [(*spot, due.known[spot]) for spot in due.spots])

    def alike_in_all(self, shop, model):
        self.alike(shop, model)
        for name, rows in model.grammars().items():
            same(self, str(shop.grammar(name)), str(made(rows)))
        for name, (rows, tree, given, due) in model.trees().items():
            for spot in due.spots:
                same(self, shop.ask(name, *spot), due.known[spot])
                same(self, shop.road(name, *spot), due.road(spot) if due.known[spot] is None else [])
            handed = sorted(given.items())
            if size_of(tree) <= 15:
                same(self, told_by(shop.rest, name), told_by(rest_of, made(rows), tree, given=handed))
                same(self, told_by(shop.rest, name, rounds=2), told_by(rest_of, made(rows), tree, given=handed, rounds=2))

    def both(self, shop, model, step):
        """A step done by both, which must tell the same."""
        shown = repr(step)
        told = do(shop, copied(step))
        word, *handed = step
        same(self, told, told_by(getattr(model, word), *handed))
        self.assertEqual(repr(step), shown)
        return told

    def all_undone(self, shop, model):
        while True:
            told = self.both(shop, model, ("undo",))
            self.alike(shop, model)
            if told == ("told", "False"):
                break
        same(self, shop.names(), ([], []))


class WrittenOut(Working):
    def test_one_behind_the_other(self):
        shop = Workshop()
        same(self, shop.names(), ([], []))
        same(self, [shop.deeds(), shop.total(), shop.depth(), shop.log(), shop.undo()], [0, 0, 0, [], False])
        same(self, shop.lay("lets", LET_TEXT), 0)
        same(self, shop.plant("tree", "lets", "root:1(let:3(leaf:4,use))"), 8)
        same(self, shop.plant("alone", "lets", "use", given=[("env", 7)]), 1)
        same(self, shop.names(), (["lets"], ["alone", "tree"]))
        same(self, shop.mark("tree", (1, 1), 9), 5)
        same(self, shop.put("tree", (1, 2), "leaf"), 3)
        same(self, shop.give("alone", "env", 8), 1)
        same(self, shop.give("alone", "env", None), 1)
        same(self, shop.ask("tree", (1,), "val"), 0)
        same(self, shop.ask("alone", (), "val"), None)
        same(self, shop.road("alone", (), "val"), [((), "val"), ((), "env")])
        same(self, shop.tree("tree"), "root:1(let:3(leaf:9,leaf))")
        same(self, shop.worths("alone"), [((), "env", None), ((), "val", None)])
        same(self, shop.total(), 19)
        same(self, shop.deeds(), 7)
        same(self, shop.uproot("tree"), 0)
        self.refused(NoName, "name", "tree", shop.tree, "tree")
        same(self, shop.plant("tree", "lets", "leaf"), 1)
        same(self, [shop.undo(), shop.undo()], [True, True])
        same(self, shop.tree("tree"), "root:1(let:3(leaf:9,leaf))")
        for step in range(7):
            same(self, shop.undo(), True)
        same(self, shop.undo(), False)
        same(self, shop.names(), ([], []))
        same(self, shop.total(), 20)

    def test_by_the_names_written(self):
        shop = Workshop(limit=3)
        same(self, shop.lay(text=CHAIN, name="g"), 0)
        same(self, shop.plant(given=[("d", 1)], text="n(z)", grammar="g", name="t"), 3)
        same(self, shop.put(text="z:2", path=(1,), name="t"), 2)
        same(self, shop.mark(own=2, path=(1,), name="t"), 0)
        same(self, shop.give(number=2, down="d", name="t"), 3)
        same(self, shop.undo(), True)
        self.assertEqual(shop.run(whole=False, steps=[("undo",)]), [True])

    def test_asks_by_the_names_written(self):
        shop = Workshop()
        shop.lay("g", "cap 4\n" + CHAIN)
        shop.plant("t", "g", "n(z:1)", given=[("d", 1)])
        same(self, shop.ask(worth="u", path=(), name="t"), 3)
        same(self, shop.road(worth="u", path=(), name="t"), [])
        same(self, [shop.tree(name="t"), len(shop.worths(name="t"))], ["n(z:1)", 4])
        self.assertTrue(shop.grammar(name="g") == grammar_in("cap 4\n" + CHAIN))
        self.assertIs(type(shop.grammar("g")), Grammar)
        due = rest_of(grammar_in("cap 4\n" + CHAIN), ("n", 0, (("z", 1, ()),)), given=[("d", 1)])
        same(self, shop.rest(name="t", rounds=9), due)
        same(self, shop.rest("t"), due)
        self.refused(TooMuch, "many", 2, shop.rest, "t", rounds=2)
        same(self, shop.uproot(name="t"), 0)
        for wrong in (lambda: Workshop(3), lambda: shop.plant("t", "g", "z", []), lambda: shop.run([], True), lambda: shop.rest("t", 9)):
            with self.assertRaises(TypeError):
                wrong()

    def test_capped_ring(self):
        shop = Workshop()
        shop.lay("g", CAPPED)
        # j is a ring, so the tree can't be kept up.
        self.refused(Ring, "ring", [((), "j")], shop.plant, "t", "g", "z")
        self.refused(Ring, "ring", [((), "j")], shop.plant, "t", "g", "z", given=[("d", 2)])
        same(self, [shop.names(), shop.deeds(), shop.total()], [(["g"], []), 1, 0])

    def test_refusals_in_order(self):
        shop = Workshop()
        shop.lay("g", CHAIN)
        shop.lay("plain", LET_TEXT)
        shop.plant("t", "g", chain(2), given=[("d", 1)])
        wide = "p(" * 29 + "z" + ",z)" * 29
        rows = [
            (Taken, "name", "g", ("lay", "g", "bad")), (Taken, "name", "t", ("lay", "t", "bad")), (BadRow, "row", 1, ("lay", "h", "sort s /\nbad")),
            (Taken, "name", "g", ("plant", "g", "none", "(", 5)), (Taken, "name", "t", ("plant", "t", "none", "(", 5)),
            (NoName, "name", "none", ("plant", "h", "none", "(", 5)), (NoName, "name", "t", ("plant", "h", "t", "(", 5)),
            (BadText, "at", 0, ("plant", "h", "g", "(", 5)), (NoTree, "thing", "leaf", ("plant", "h", "g", "leaf", 5)),
            (NoTree, "thing", f"p({wide},n(z))", ("plant", "h", "g", f"p({wide},n(z))", 5)),
            (NoGiven, "thing", 5, ("plant", "h", "g", "back(z)", 5)), (NoGiven, "thing", [("u", 1)], ("plant", "h", "g", "z", [("u", 1)])),
            (Ring, "ring", [((1,), "d"), ((1,), "u")], ("plant", "h", "g", "back(z)", ())),
            (NoName, "name", "g", ("put", "g", (9,), "(")), (NoNode, "path", (2,), ("put", "t", (2,), "(")),
            (BadText, "at", 2, ("put", "t", (1,), "z:")), (NoTree, "thing", "leaf", ("put", "t", (1,), "leaf")),
            (NoTree, "thing", ("back", 0, (tree_in_chain(29),)), ("put", "t", (1,), f"back({chain(29)})")),
            (Ring, "ring", [((1, 1), "d"), ((1, 1), "u")], ("put", "t", (1,), "back(z)")),
            (NoName, "name", "g", ("mark", "g", (9,), -1)), (NoNode, "path", (9,), ("mark", "t", (9,), -1)),
            (NoTree, "thing", -1, ("mark", "t", (1,), -1)), (NoName, "name", "h", ("give", "h", "x", -1)),
            (NoGiven, "thing", ("d", -1), ("give", "t", "d", -1)), (NoGiven, "thing", ("x", None), ("give", "t", "x", None)),
            (NoName, "name", "g", ("uproot", "g")), (NoName, "name", "h", ("uproot", "h")),
        ]
        kept = shop.worths("t"), shop.names(), shop.tree("t")
        for kind, field, due, step in rows:
            self.assertEqual(do(shop, step)[0], kind.__name__, step)
            same(self, do(shop, step)[1], repr({field: due}))
            same(self, (shop.worths("t"), shop.names(), shop.tree("t")), kept)
            same(self, [shop.deeds(), shop.total(), shop.log(), shop.depth()], [3, 5, [], 0])

    def test_asks_refused(self):
        shop = Workshop()
        shop.lay("g", CHAIN)
        shop.plant("t", "g", "z")
        for ask, more in ((shop.ask, ((9,), "x")), (shop.tree, ()), (shop.worths, ()), (shop.road, ((9,), "x")), (shop.rest, ())):
            for name in ("g", "h", "zz"):
                self.refused(NoName, "name", name, ask, name, *more)
        for name in ("t", "h"):
            self.refused(NoName, "name", name, shop.grammar, name)
        for thing in THINGS:
            self.refused(NoSpot, "spot", (thing, "x"), shop.ask, "t", thing, "x")
            self.refused(NoSpot, "spot", ((1,), thing), shop.road, "t", (1,), thing)
        self.refused(NoCap, "under", 0, shop.rest, "t", rounds=1)
        same(self, shop.deeds(), 2)

    def test_sixty_nodes_and_thirty_places(self):
        shop = Workshop()
        shop.lay("g", CHAIN)
        sixty = f"p({chain(29)},{chain(28)})"
        same(self, shop.plant("t", "g", sixty), 119)
        beyond = f"p({chain(29)},{chain(29)})"
        self.refused(NoTree, "thing", beyond, shop.plant, "h", "g", beyond)
        self.refused(NoTree, "thing", tree_in_chain(1), shop.put, "t", (2,) + (1,) * 28, "n(z)")
        self.refused(NoTree, "thing", tree_in_chain(2), shop.put, "t", (1,) * 29, "n(n(z))")
        same(self, shop.put("t", (1,) * 30, "z:3"), 1)
        self.refused(BadText, "at", 61, shop.plant, "h", "g", chain(31))
        same(self, shop.plant("h", "g", chain(30)), 61)

    def test_limits(self):
        shop = Workshop(limit=0)
        same(self, shop.lay("g", CHAIN), 0)
        self.refused(TooMuch, "many", 1, shop.plant, "t", "g", "z")
        self.refused(TooMuch, "many", 5, shop.plant, "t", "g", chain(2), given=[("d", 1)])
        same(self, shop.names(), (["g"], []))
        shop = Workshop(limit=5)
        shop.lay("g", CHAIN)
        self.refused(TooMuch, "many", 7, shop.plant, "t", "g", chain(3))
        same(self, shop.plant("t", "g", chain(2), given=[("d", 1)]), 5)
        self.refused(TooMuch, "many", 7, shop.put, "t", (), chain(3))
        self.refused(TooMuch, "many", 7, shop.put, "t", (1, 1), chain(2))
        same(self, shop.tree("t"), chain(2))
        same(self, shop.give("t", "d", 2), 5)
        same(self, shop.put("t", (1, 1), "n(z)"), 5)
        self.refused(TooMuch, "many", 7, shop.give, "t", "d", 3)
        same(self, shop.give("t", "d", 2), 0)
        same(self, shop.ask("t", (), "u"), 5)
        same(self, shop.total(), 15)
        same(self, shop.mark("t", (1, 1, 1), 4), 4)
        same(self, shop.uproot("t"), 0)

    def test_the_limit_that_is_taken(self):
        """As many rules as sixty nodes can have are below it."""
        rules = [f"rule {making} {target} copy own" for making, places in (("p", 2), ("n", 1), ("z", 0))
                 for target in ["0.u", "0.v", "j", "k"] + [f"{at}.{down}" for at in range(1, places + 1) for down in "de"]]
        text = "\n".join(["sort s d e / u v", "make p s s s", "make n s s", "make z s", *rules])
        trees = ["z"] * 30
        while len(trees) > 1:
            trees.append(f"p({trees.pop(0)},{trees.pop(0)})")
        shop = Workshop()
        shop.lay("g", text)
        many = 60 * 4 + 59 * 2
        same(self, shop.plant("t", "g", f"n({trees[0]})"), many)
        for limit in (many, many - 1):
            shop = Workshop(limit=limit)
            shop.lay("g", text)
            same(self, do(shop, ("plant", "t", "g", f"n({trees[0]})", ()))[0], "told" if limit == many else "TooMuch")


def tree_in_chain(places):
    tree = ("z", 0, ())
    for step in range(places):
        tree = ("n", 0, (tree,))
    return tree


class Runs(Working):
    def started(self):
        shop = Workshop()
        shop.lay("g", CHAIN)
        shop.plant("t", "g", chain(1), given=[("d", 1)])
        return shop

    def test_whole_and_not(self):
        for whole in (True, False):
            shop = self.started()
            steps = [("mark", "t", (1,), 4), ("undo",), ("undo",), ("lay", "h", ""), ("uproot", "t")]
            self.refused(NoName, "name", "t", shop.run, steps, whole=whole)
            if whole:
                same(self, [shop.names(), shop.deeds(), shop.total()], [(["g"], ["t"]), 2, 3])
                same(self, shop.tree("t"), chain(1))
            else:
                same(self, [shop.names(), shop.deeds(), shop.total()], [(["g", "h"], []), 2, 5])
            same(self, [shop.log(), shop.depth()], [[("begin", 1), ("end", 1)], 0])
            steps = [("plant", "v", "g", "z:3", [("d", 2)]), ("undo",), ("run", [("lay", "i", SMALL), ("run", [], True)], False)]
            same(self, shop.run(steps, whole=whole), [1, True, [0, []]])
            begins = [("begin", 1), ("begin", 2), ("begin", 3), ("end", 3), ("end", 2), ("end", 1)]
            same(self, shop.log(), [("begin", 1), ("end", 1), *begins])

    def test_whole_where_nothing_else_is_told(self):
        shop = self.started()
        self.refused(NoName, "name", "x", shop.run, [("uproot", "t"), ("uproot", "x")])
        same(self, shop.names(), (["g"], ["t"]))
        same(self, shop.run([]), [])

    def test_runs_within_runs(self):
        """Each of three runs whole or not, with a step that is refused in the innermost one."""
        for one in (True, False):
            for two in (True, False):
                for three in (True, False):
                    shop = self.started()
                    inner = [("lay", "c", ""), ("uproot", "none"), ("lay", "d", "")]
                    middle = [("lay", "b", ""), ("run", inner, three), ("lay", "e", "")]
                    self.refused(NoName, "name", "none", shop.run, [("lay", "a", ""), ("run", middle, two), ("lay", "f", "")], whole=one)
                    due = ["g"] if one else ["a", "g"] if two else ["a", "b", "g"] if three else ["a", "b", "c", "g"]
                    same(self, shop.names(), (due, ["t"]))
                    same(self, shop.deeds(), 1 + len(due))
                    same(self, shop.log(), [("begin", 1), ("begin", 2), ("begin", 3), ("end", 3), ("end", 2), ("end", 1)])
                    same(self, shop.depth(), 0)

    def test_a_runs_deeds_are_undone_one_by_one(self):
        shop = self.started()
        same(self, shop.run([("mark", "t", (1,), 4), ("mark", "t", (1,), 5), ("give", "t", "d", 0)]), [2, 2, 3])
        same(self, shop.deeds(), 5)
        for due in ("n(z:5)", "n(z:4)", "n(z)"):
            same(self, shop.undo(), True)
            same(self, shop.tree("t"), due)
        same(self, shop.total(), 10)

    def test_what_was_undone_is_undone_no_more(self):
        shop = self.started()
        shop.mark("t", (1,), 4)
        self.refused(NoName, "name", "t", shop.run, [("undo",), ("undo",), ("undo",), ("undo",), ("mark", "t", (), 1)])
        same(self, [shop.deeds(), shop.tree("t"), shop.ask("t", (), "u")], [3, "n(z:4)", 6])
        same(self, shop.undo(), True)
        same(self, shop.tree("t"), "n(z)")
        self.refused(NoName, "name", "t", shop.run, [("undo",)] * 4 + [("mark", "t", (), 1)], whole=False)
        same(self, [shop.deeds(), shop.names(), shop.total()], [0, ([], []), 5])

    def test_each_refusal_within_a_run(self):
        shop = self.started()
        wrongs = [
            (Taken, ("lay", "t", "")), (BadRow, ("lay", "h", "x")), (NoName, ("plant", "h", "x", "z", ())), (BadText, ("plant", "h", "g", "", ())),
            (NoTree, ("plant", "h", "g", "x", ())), (NoGiven, ("plant", "h", "g", "z", 1)), (Ring, ("plant", "h", "g", "back(z)", [])),
            (NoNode, ("put", "t", (2,), "z")), (NoTree, ("mark", "t", (), None)), (NoGiven, ("give", "t", "u", 1)),
        ]
        kept = shop.worths("t")
        for kind, wrong in wrongs:
            for steps in ([wrong], [("mark", "t", (1,), 9), wrong], [("undo",), ("lay", "k", ""), ("undo",), ("undo",), ("lay", "t", "")] + [("lay", "g", CHAIN), wrong, wrong]):
                told = do(shop, ("run", steps, True))
                self.assertNotEqual(told[0], "told")
                if len(steps) < 3:
                    self.assertEqual(told[0], kind.__name__)
                same(self, [shop.worths("t"), shop.names(), shop.deeds(), shop.total(), shop.depth()], [kept, (["g"], ["t"]), 2, 3, 0])
        same(self, shop.log(), [("begin", 1), ("end", 1)] * 30)

    def test_too_much_within_a_run(self):
        shop = Workshop(limit=3)
        shop.lay("g", CHAIN)
        shop.plant("t", "g", chain(1), given=[("d", 1)])
        self.refused(TooMuch, "many", 5, shop.run, [("mark", "t", (1,), 7), ("put", "t", (), chain(2))])
        same(self, [shop.tree("t"), shop.total()], [chain(1), 3])
        self.refused(TooMuch, "many", 5, shop.run, [("mark", "t", (1,), 7), ("put", "t", (), chain(2))], whole=False)
        same(self, [shop.tree("t"), shop.total()], ["n(z:7)", 5])


class ByChance(Working):
    def test_deeds(self):
        refused = {}
        for seed in range(60):
            rng = random.Random(230 + seed)
            limit = rng.choice([400, 400, 400, 8, 3])
            shop, model = Workshop(limit=limit), ShopDue(limit)
            for name, text in rng.sample([("a", LET_TEXT), ("b", CHAIN), ("c", "cap 4\n" + CHAIN)], 2):
                self.both(shop, model, ("lay", name, text))
            for step in range(35):
                told = self.both(shop, model, deed_by_chance(rng, model))
                refused[told[0]] = refused.get(told[0], 0) + 1
                self.alike(shop, model)
            self.alike_in_all(shop, model)
            self.all_undone(shop, model)
        for kind in (BadRow, BadText, NoGiven, NoName, NoNode, NoTree, Ring, Taken, TooMuch):
            self.assertGreater(refused.get(kind.__name__, 0), 1, kind)
        self.assertGreater(refused["told"], 200)

    def test_runs(self):
        deep = refused = 0
        for seed in range(60):
            rng = random.Random(260 + seed)
            shop, model = Workshop(), ShopDue()
            for name, text in (("a", LET_TEXT), ("b", CHAIN)):
                self.both(shop, model, ("lay", name, text))
            for step in range(14):
                one = run_by_chance(rng, model) if rng.random() < 0.7 else deed_by_chance(rng, model)
                refused += self.both(shop, model, one)[0] != "told" and one[0] == "run"
                self.alike(shop, model)
            deep += ("begin", 3) in shop.log()
            self.alike_in_all(shop, model)
            self.all_undone(shop, model)
        self.assertGreater(deep, 10)
        self.assertGreater(refused, 60)

    def test_a_step_refused_anywhere(self):
        """The same run with a step that is refused at each place, at each depth."""
        inner = [("mark", "t", (1,), 2), ("undo",), ("give", "t", "d", 8)]
        for at in range(4):
            for deep in range(3):
                for wholes in ((True, True, True), (False, True, False), (True, False, True), (False, False, False), (False, False, True)):
                    shop, model = Workshop(), ShopDue()
                    for step in (("lay", "g", CHAIN), ("plant", "t", "g", chain(1), [("d", 3)]), ("mark", "t", (), 6)):
                        self.both(shop, model, step)
                    steps = list(inner)
                    if deep == 2:
                        steps.insert(at, ("uproot", "none"))
                    for level in (1, 0):
                        steps = [("put", "t", (1,), "z:7"), ("run", steps, wholes[level]), ("undo",), ("lay", "ab"[level], "")]
                        if deep == level:
                            steps.insert(at, ("uproot", "none"))
                    told = self.both(shop, model, ("run", steps, wholes[2]))
                    self.assertEqual(told[0], "NoName")
                    self.alike_in_all(shop, model)
                    self.all_undone(shop, model)

    def test_two_by_turns(self):
        rng = random.Random(290)
        shops = [(Workshop(), ShopDue()), (Workshop(limit=6), ShopDue(6))]
        for step in range(120):
            shop, model = rng.choice(shops)
            self.both(shop, model, rng.choice([run_by_chance, deed_by_chance])(rng, model))
            for shop, model in shops:
                self.alike(shop, model)
        for shop, model in shops:
            self.alike_in_all(shop, model)
            self.all_undone(shop, model)

    def test_a_hundred_deeds_of_one_tree(self):
        rng = random.Random(291)
        shop, model = Workshop(), ShopDue()
        self.both(shop, model, ("lay", "g", "cap 9\n" + CHAIN))
        self.both(shop, model, ("plant", "t", "g", "p(n(z:3),p(z,z:1))", [("d", 1)]))
        upkeep = Upkeep(shop.grammar("g"), ("p", 0, (("n", 0, (("z", 3, ()),)), ("p", 0, (("z", 0, ()), ("z", 1, ()))))), given=[("d", 1)])
        while shop.deeds() < 102:
            path, node = rng.choice(walk(upkeep.tree()))
            kind = rng.random()
            if kind < 0.5:
                own = rng.randrange(12)
                same(self, shop.mark("t", path, own), upkeep.mark(path, own))
                told_by(model.mark, "t", path, own)
            elif kind < 0.8:
                part = rng.choice([("z", rng.randrange(4), ()), node, ("n", 0, (("z", 2, ()),))])
                if size_of(upkeep.tree()) > 40:
                    path, part = (), ("p", 0, (("z", 1, ()), ("z", 2, ())))
                same(self, shop.put("t", path, tree_text(part)), upkeep.put(path, part))
                told_by(model.put, "t", path, tree_text(part))
            else:
                number = rng.choice([None, 0, 5, 12])
                same(self, shop.give("t", "d", number), upkeep.give("d", number))
                told_by(model.give, "t", "d", number)
            same(self, shop.worths("t"), upkeep.worths())
            same(self, shop.tree("t"), tree_text(upkeep.tree()))
            same(self, shop.total(), upkeep.reckoned())
        self.alike_in_all(shop, model)
        for step in range(100):
            same(self, [shop.undo(), upkeep.undo()], [True, True])
            same(self, shop.worths("t"), upkeep.worths())
        same(self, shop.names(), (["g"], ["t"]))
        same(self, [shop.undo(), shop.undo(), shop.undo()], [True, True, False])


class HandedIn(Working):
    def test_lists_changed_behind(self):
        shop, model = Workshop(), ShopDue()
        given = [("d", 3)]
        shop.lay("g", "cap 4\n" + CHAIN)
        model.lay("g", "cap 4\n" + CHAIN)
        shop.plant("t", "g", "n(z)", given=given)
        model.plant("t", "g", "n(z)", [("d", 3)])
        given.append(("d", 4))
        given.reverse()
        self.alike_in_all(shop, model)
        inner = [("mark", "t", (1,), 5)]
        gifts = [("d", 1)]
        steps = [("plant", "v", "g", "z", gifts), ("run", inner, True), ("lay", "h", "")]
        told = shop.run(steps)
        model.run(copied(steps), True)
        same(self, steps, [("plant", "v", "g", "z", [("d", 1)]), ("run", [("mark", "t", (1,), 5)], True), ("lay", "h", "")])
        for each in (steps, inner, gifts):
            each.clear()
        same(self, told, [1, [1], 0])
        told[1].append(None)
        told.clear()
        self.alike_in_all(shop, model)

    def test_what_is_told_is_the_askers_own(self):
        shop, model = Workshop(), ShopDue()
        for step in (("lay", "g", "cap 4\n" + CHAIN), ("plant", "t", "g", "n(z)", ()), ("run", [("undo",), ("plant", "t", "g", "z:3", [])], True)):
            self.both(shop, model, step)
        asks = [lambda: shop.names()[0], lambda: shop.names()[1], lambda: shop.worths("t"), lambda: shop.road("t", (), "u"),
                shop.log, lambda: shop.rest("t"), lambda: shop.grammar("g").rules(), lambda: shop.run([])]
        for ask in asks:
            told, other = ask(), ask()
            self.assertIsNot(told, other)
            told.append(None)
            other.clear()
            model.log = shop.log()
            self.alike_in_all(shop, model)
        self.assertEqual(rows_of(shop.grammar("g")), model.grammars()["g"])

    def test_as_the_ways_tell(self):
        shop = Workshop()
        shop.lay("g", LET_TEXT)
        shop.plant("t", "g", "let(use,use)", given=[("env", 6)])
        same(self, shop.worths("t"), by_demand(grammar_in(LET_TEXT), ("let", 0, (("use", 0, ()), ("use", 0, ()))), given=[("env", 6)]))


if __name__ == "__main__":
    unittest.main()
