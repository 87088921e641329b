import random
import unittest

from helper import (
    LET_MAKINGS, LET_RULES, LET_SORTS, PARTS, THINGS, TOP, copied, first_bad, grammars_by_chance, same, spoilt,
)
from threereckons.errors import BadGrammar, NoName
from threereckons.grammar import Grammar

EMPTY = ([], [], [], 0)
LETS = (LET_SORTS, LET_MAKINGS, LET_RULES, 0)
CAPPED = (
    [("s", ("d", "e"), ("u", "v")), ("t", (), ())],
    [("one", "s", ("t", "s")), ("two", "t", ()), ("s", "s", ("s",))],
    [
        ("one", ("at", 2, "e"), "most", (("at", 2, "v"), ("at", 0, "e"))),
        ("one", ("kept", "t"), "plus", (("kept", "k"), ("number", 999999))),
        ("s", ("at", 0, "u"), "least", (("own",), ("at", 1, "u"))),
        ("s", ("kept", "two"), "copy", (("number", 0),)),
    ],
    9,
)
PICKED = ([("s", ("d",), ())], [("m", "s", ())], [("m", ("kept", "k"), "pick", (("own",), ("kept", "j"), ("own",)))], 0)
WRITTEN = [EMPTY, LETS, CAPPED, PICKED]


def made(rows):
    sorts, makings, rules, cap = copied(rows)
    return Grammar(sorts, makings, rules, cap=cap)


def kept_due(rules, making):
    terms = []
    for whose, target, op, operands in rules:
        if whose == making:
            terms += [target, *operands]
    return sorted({term[1] for term in terms if term[0] == "kept"})


class Telling(unittest.TestCase):
    def told(self, rows):
        sorts, makings, rules, cap = rows
        grammar = made(rows)
        for again in range(2):
            self.all_told(grammar, rows)
            for told in (grammar.sorts(), grammar.makings(), grammar.rules()):
                told.reverse()
                told.append("other")
                told[:1] = []
            for row in makings:
                grammar.kept_of(row[0]).append("other")

    def all_told(self, grammar, rows):
        sorts, makings, rules, cap = rows
        same(self, (grammar.sorts(), grammar.makings(), grammar.rules(), grammar.cap()), rows)
        for sort, downs, ups in sorts:
            same(self, grammar.worths_of(sort), (downs, ups))
        for making, sort, parts in makings:
            same(self, grammar.making_of(making), (sort, parts))
            same(self, grammar.kept_of(making), kept_due(rules, making))
            found = {target: (op, operands) for whose, target, op, operands in rules if whose == making}
            for name in ("a", "u", "val", "k", "extra", "env", "out", "t"):
                for target in [("kept", name)] + [("at", place, name) for place in range(4)]:
                    same(self, grammar.rule_for(making, target), found.get(target))
            for target in found:
                same(self, grammar.rule_for(making, target), found[target])
                same(self, grammar.rule_for(making=making, target=target), found[target])
        same(self, len(grammar), len(makings))
        self.assertEqual(repr(grammar), f"Grammar({len(sorts)} sorts, {len(makings)} makings)")

    def test_written_out(self):
        for rows in WRITTEN:
            self.told(rows)

    def test_by_chance(self):
        for rows in grammars_by_chance(1, 150):
            self.told(rows)

    def test_each_number_of_sorts_and_makings(self):
        for sorts in range(5):
            for makings in range(9):
                for rows in grammars_by_chance(sorts * 10 + makings, 3, many_sorts=sorts, many_makings=makings):
                    self.told(rows)

    def test_repr_of_several(self):
        rows = [(EMPTY, "0 sorts, 0"), (LETS, "2 sorts, 4"), (CAPPED, "2 sorts, 3"), (PICKED, "1 sorts, 1")]
        for grammar, due in rows:
            self.assertEqual(repr(made(grammar)), f"Grammar({due} makings)")

    def test_every_op(self):
        for op, many in PARTS.items():
            for cap in (0, 1, 9):
                if cap and op not in ("copy", "plus", "least", "most"):
                    continue
                rule = ("m", ("kept", "k"), op, tuple([("own",)] * many))
                grammar = Grammar([("s", (), ())], [("m", "s", ())], [rule], cap=cap)
                same(self, grammar.rule_for("m", ("kept", "k")), (op, rule[3]))

    def test_rows_in_any_order(self):
        rng = random.Random(4)
        for rows in grammars_by_chance(5, 30):
            turned = copied(rows)
            for part in turned[:3]:
                rng.shuffle(part)
            self.told(turned)

    def test_what_is_handed_in_stays_and_later_changes_are_not_seen(self):
        for rows in WRITTEN + grammars_by_chance(6, 30):
            sorts, makings, rules, cap = handed = copied(rows)
            grammar = Grammar(sorts, makings, rules, cap=cap)
            same(self, handed, rows)
            text = str(grammar)
            for part in (sorts, makings, rules):
                part.append(("other", (), ()))
                part.reverse()
            self.all_told(grammar, rows)
            self.assertEqual(str(grammar), text)
            self.assertTrue(grammar == made(rows))

    def test_no_two_told_lists_are_the_same_one(self):
        for rows in WRITTEN:
            grammar = made(rows)
            for ask in (grammar.sorts, grammar.makings, grammar.rules):
                self.assertIsNot(ask(), ask())
            for making, sort, parts in grammar.makings():
                self.assertIsNot(grammar.kept_of(making), grammar.kept_of(making))

    def test_what_was_told_may_be_handed_in_again(self):
        for rows in WRITTEN + grammars_by_chance(7, 20):
            grammar = made(rows)
            again = Grammar(grammar.sorts(), grammar.makings(), grammar.rules(), cap=grammar.cap())
            self.all_told(again, rows)

    def test_arguments(self):
        sorts, makings, rules, cap = CAPPED
        by_name = Grammar(cap=cap, rules=rules, makings=makings, sorts=sorts)
        self.all_told(by_name, CAPPED)
        self.assertEqual(Grammar([], [], []).cap(), 0)
        same(self, by_name.worths_of(sort="s"), (("d", "e"), ("u", "v")))
        same(self, by_name.making_of(making="one"), ("s", ("t", "s")))
        same(self, by_name.kept_of(making="one"), ["k", "t"])
        with self.assertRaises(TypeError):
            Grammar([], [], [], 0)

    def test_targets_of_any_make(self):
        grammar = made(LETS)
        for target in THINGS + [("at", False, "val"), ("at", True, "env"), ["at", 0, "val"], ("at", 0, ["val"]),
                                ("kept", "extra", 1), ["kept", "extra"], ("at", 0), ("at", 0, "val", 0),
                                ("kept", ["extra"]), ("kept", ("extra",)), ("at", [0], "val"), ("at", -1, "val")]:
            self.assertIs(grammar.rule_for("let", target), None, target)
        self.assertIsNotNone(grammar.rule_for("let", ("at", 0, "val")))
        self.assertIsNotNone(grammar.rule_for("let", ("at", 1, "env")))
        self.assertIsNotNone(grammar.rule_for("let", ("kept", "extra")))


class NoNames(unittest.TestCase):
    def refused(self, name, ask, *told):
        with self.assertRaises(NoName) as caught:
            ask(*told)
        self.assertIs(type(caught.exception), NoName)
        same(self, caught.exception.name, name)

    def test_no_sort_and_no_making(self):
        for rows in WRITTEN + grammars_by_chance(8, 10):
            grammar = made(rows)
            sorts = [row[0] for row in rows[0]]
            makings = [row[0] for row in rows[1]]
            names = ["", "own", "x", "abcdefg", "exp", "let", "s", "one", "val", "1", "a b", *sorts, *makings]
            for name in names + THINGS:
                if name not in sorts:
                    self.refused(name, grammar.worths_of, name)
                if name not in makings:
                    self.refused(name, grammar.making_of, name)
                    self.refused(name, grammar.kept_of, name)
                    self.refused(name, grammar.rule_for, name, ("at", 0, "val"))
                    self.refused(name, grammar.rule_for, name, None)
            self.assertEqual(grammar.sorts(), rows[0])


class Refusals(unittest.TestCase):
    def due(self, rows, due):
        sorts, makings, rules, cap = rows
        before = copied(rows)
        if due is None:
            grammar = Grammar(sorts, makings, rules, cap=cap)
            same(self, (grammar.sorts(), grammar.makings(), grammar.rules(), grammar.cap()), rows)
        else:
            with self.assertRaises(BadGrammar, msg=repr(rows)) as caught:
                Grammar(sorts, makings, rules, cap=cap)
            self.assertIs(type(caught.exception), BadGrammar)
            same(self, (caught.exception.part, caught.exception.row), due)
        same(self, rows, before)

    def test_spoilt_at_every_place(self):
        refused = 0
        rows_of_all = [CAPPED, PICKED, LETS, grammars_by_chance(11, 1, many_sorts=4, many_makings=4, cap=0, share=1)[0]]
        for rows in rows_of_all:
            for at in range(4):
                for other in spoilt(rows[at]):
                    parts = list(rows)
                    parts[at] = other
                    due = first_bad(*parts)
                    refused += due is not None
                    self.due(tuple(parts), due)
        self.assertGreater(refused, 5000)

    def test_two_spoilt_the_first_is_told(self):
        rng = random.Random(12)
        ways = [list(spoilt(part)) for part in LETS]
        for step in range(1500):
            parts = list(LETS)
            for at in rng.sample(range(4), 2):
                parts[at] = rng.choice(ways[at])
            self.due(tuple(parts), first_bad(*parts))

    def test_things_of_any_make(self):
        for thing in THINGS:
            for at, part in enumerate(("sorts", "makings", "rules", "cap")):
                parts = list(LETS)
                parts[at] = thing
                self.due(tuple(parts), first_bad(*parts))
                if at < 3:
                    parts[at] = list(LETS[at]) + [thing]
                    self.due(tuple(parts), (part, len(LETS[at])))
                    parts[at] = [thing] + list(LETS[at])
                    self.due(tuple(parts), (part, 0))

    def test_cap(self):
        for cap in range(10):
            self.due(([], [], [], cap), None)
        for cap in (-1, 10, 11, TOP, 10 ** 6, True, False, None, "1", "", [1], (1,), [], ()):
            self.due(([], [], [], cap), ("cap", 0))
            self.due((None, None, None, cap), ("cap", 0))

    def test_sorts(self):
        good = ("s", ("d", "e"), ("u", "v"))
        rows = [
            ([good], None), ([("s", (), ())], None), ([("abcdef", ("abcdef",), ())], None),
            ([("abcdefg", (), ())], 0), ([("own", (), ())], 0), ([("", (), ())], 0), ([("S", (), ())], 0),
            ([("a1", (), ())], 0), ([("a ", (), ())], 0), ([good, ("t", ("own",), ())], 1),
            ([("s", ("d", "d"), ())], 0), ([("s", ("d",), ("d",))], 0), ([("s", (), ("u", "u"))], 0),
            ([("s", ("d", "e", "f"), ())], 0), ([("s", (), ("u", "v", "w"))], 0), ([good, good], 1),
            ([good, ("t", ("d", "e"), ("u", "v"))], None), ([good, ("s", (), ())], 1), ([good, ("t", (), ()), good], 2),
            ([("s", ["d"], ())], 0), ([("s", (), ["u"])], 0), ([["s", (), ()]], 0), ([("s", ())], 0),
            ([("s", (), (), ())], 0), ([("s", "d", ())], 0), ([("s", None, ())], 0), ([("s", (True,), ())], 0),
            ((good,), 0), ("s", 0), (None, 0), ({}, 0), ((), 0),
        ]
        for sorts, row in rows:
            self.due((sorts, [], [], 0), None if row is None else ("sorts", row))

    def test_bounds(self):
        sorts = [(name, (), ()) for name in "abcde"]
        makings = [(name, "a", ()) for name in "abcdefghi"]
        self.due((sorts[:4], makings[:8], [], 0), None)
        self.due((sorts, makings[:8], [], 0), ("sorts", 4))
        self.due((sorts[:4], makings, [], 0), ("makings", 8))
        self.due((sorts, makings, [], 0), ("sorts", 4))
        self.due((sorts + [None], makings, [], 0), ("sorts", 4))
        self.due((sorts[:3] + [None] + sorts[3:], makings, [], 0), ("sorts", 3))
        self.due((sorts[:4], makings[:7] + [None] + makings[7:], [], 0), ("makings", 7))
        self.due((sorts[:4], [("m", "a", ("a", "b"))], [], 0), None)
        self.due((sorts[:4], [("m", "a", ("a", "b", "c"))], [], 0), ("makings", 0))
        # All that a grammar may have: eight rules of each of eight makings.
        full = [(name, ("d", "e"), ("u", "v")) for name in "abcd"]
        twos = [(name, "a", ("b", "c")) for name in "abcdefgh"]
        rules = []
        for making, sort, parts in twos:
            aims = [("at", 0, "u"), ("at", 0, "v"), ("kept", "k"), ("kept", "j")]
            aims += [("at", place, down) for place in (1, 2) for down in "de"]
            rules += [(making, target, "pick", (("own",), ("number", TOP), ("at", 2, "v"))) for target in aims]
        self.assertEqual(len(rules), 64)
        self.due((full, twos, rules, 0), None)
        self.due((full, twos, rules + rules[-1:], 0), ("rules", 64))
        self.due((full, twos, rules + [("a", ("kept", "l"), "copy", (("own",),))], 0), ("rules", 64))

    def test_makings(self):
        sorts = [("s", ("d",), ("u",)), ("t", (), ())]
        rows = [
            ([("s", "s", ())], None), ([("m", "s", ("t", "t")), ("n", "t", ("s",))], None),
            ([("m", "x", ())], 0), ([("m", "s", ("x",))], 0), ([("m", "s", ("s", "x"))], 0), ([("m", "d", ())], 0),
            ([("m", "s", ()), ("m", "t", ())], 1), ([("own", "s", ())], 0), ([("abcdefg", "s", ())], 0),
            ([("m", "s", ["s"])], 0), ([("m", "s", "s")], 0), ([("m", ["s"], ())], 0), ([("m", ("s",), ())], 0),
            ([("m", "s", (["s"],))], 0), ([("m", "s", (None,))], 0), ([["m", "s", ()]], 0), ([("m", "s")], 0),
            ([("m", "s", (), ())], 0), (None, 0), ((), 0), ((("m", "s", ()),), 0), ("m", 0), (7, 0),
        ]
        for makings, row in rows:
            self.due((sorts, makings, [], 0), None if row is None else ("makings", row))

    def test_rules(self):
        sorts = [("s", ("d",), ("u",)), ("t", ("e",), ("v",))]
        makings = [("m", "s", ("t", "s")), ("n", "t", ())]
        up = ("at", 0, "u")
        own = ("own",)
        one = ("m", up, "copy", (own,))
        rows = [
            ([one], None), ([one, one], 1), ([one, ("m", up, "plus", (own, own))], 1), ([one, ("n", up, "copy", (own,))], 1),
            ([("m", ("at", 0, "d"), "copy", (own,))], 0), ([("m", ("at", 1, "e"), "copy", (own,))], None),
            ([("m", ("at", 1, "v"), "copy", (own,))], 0), ([("m", ("at", 1, "d"), "copy", (own,))], 0),
            ([("m", ("at", 2, "d"), "copy", (own,))], None), ([("m", ("at", 2, "e"), "copy", (own,))], 0),
            ([("m", ("at", 3, "d"), "copy", (own,))], 0), ([("m", ("at", -1, "d"), "copy", (own,))], 0),
            ([("n", ("at", 1, "e"), "copy", (own,))], 0), ([("m", ("at", False, "u"), "copy", (own,))], 0),
            ([("m", ("at", True, "e"), "copy", (own,))], 0), ([("m", ("at", "0", "u"), "copy", (own,))], 0),
            ([("m", ("at", None, "u"), "copy", (own,))], 0), ([("m", ["at", 0, "u"], "copy", (own,))], 0),
            ([("m", ("at", 0, ["u"]), "copy", (own,))], 0), ([("m", ("at", 0), "copy", (own,))], 0),
            ([("m", ("own",), "copy", (own,))], 0), ([("m", ("number", 1), "copy", (own,))], 0),
            ([("m", ("kept", "d"), "copy", (own,))], 0), ([("m", ("kept", "u"), "copy", (own,))], 0),
            ([("m", ("kept", "e"), "copy", (own,))], None), ([("m", ("kept", "own"), "copy", (own,))], 0),
            ([("m", ("kept", "m"), "copy", (own,))], None), ([("m", ("kept", "abcdefg"), "copy", (own,))], 0),
            ([("m", up, "copy", (("at", 0, "d"),))], None), ([("m", up, "copy", (("at", 0, "u"),))], 0),
            ([("m", up, "copy", (("at", 1, "v"),))], None), ([("m", up, "copy", (("at", 1, "e"),))], 0),
            ([("m", up, "copy", (("at", 2, "u"),))], None), ([("m", up, "copy", (("at", 2, "d"),))], 0),
            ([("m", up, "copy", (("at", 3, "u"),))], 0), ([("m", up, "copy", (("at", True, "v"),))], 0),
            ([("m", up, "copy", (("kept", "d"),))], 0), ([("m", up, "copy", (("kept", "k"),))], None),
            ([("m", up, "copy", (("number", TOP),))], None), ([("m", up, "copy", (("number", 10 ** 6),))], 0),
            ([("m", up, "copy", (("number", -1),))], 0), ([("m", up, "copy", (("number", True),))], 0),
            ([("m", up, "copy", (("number", "1"),))], 0), ([("m", up, "copy", (("number",),))], 0),
            ([("m", up, "copy", (("own", 1),))], 0), ([("m", up, "copy", (["own"],))], 0),
            ([("m", up, "copy", ("own",))], 0), ([("m", up, "copy", [own])], 0), ([("m", up, "copy", own)], 0),
            ([("m", up, "copy", ())], 0), ([("m", up, "copy", (own, own))], 0), ([("m", up, "plus", (own,))], 0),
            ([("m", up, "pick", (own, own))], 0), ([("m", up, "minus", (own, own))], 0), ([("m", up, None, (own,))], 0),
            ([("m", up, ["copy"], (own,))], 0), ([("x", up, "copy", (own,))], 0), ([("s", up, "copy", (own,))], 0),
            ([(["m"], up, "copy", (own,))], 0), ([list(one)], 0), ([one[:3]], 0), ([one + (own,)], 0),
            (None, 0), ((), 0), ((one,), 0), ("rules", 0),
        ]
        for rules, row in rows:
            self.due((sorts, makings, rules, 0), None if row is None else ("rules", row))

    def test_names_kept(self):
        sorts = [("s", (), ("u",))]
        makings = [("m", "s", ()), ("n", "s", ())]

        def kept(making, target, *names):
            op = {1: "copy", 2: "plus", 3: "pick"}[len(names)]
            return (making, ("kept", target), op, tuple(("kept", name) for name in names))

        rows = [
            ([kept("m", "a", "a")], None), ([kept("m", "a", "b")], None), ([kept("m", "a", "b", "c")], 0),
            ([kept("m", "a", "b", "b", "a")], None), ([kept("m", "a", "b", "c", "d")], 0),
            ([kept("m", "a", "b"), kept("m", "b", "a")], None), ([kept("m", "a", "b"), kept("m", "c", "a")], 1),
            ([kept("m", "a", "a"), kept("m", "b", "b"), kept("m", "c", "c")], 2),
            ([kept("m", "a", "b"), kept("n", "c", "d")], None), ([kept("m", "a", "b"), kept("n", "c", "d", "a")], 1),
            ([kept("m", "a", "a"), ("m", ("at", 0, "u"), "plus", (("kept", "b"), ("kept", "c")))], 1),
            ([kept("m", "a", "a"), ("m", ("at", 0, "u"), "plus", (("kept", "b"), ("kept", "a")))], None),
        ]
        for rules, row in rows:
            self.due((sorts, makings, rules, 0), None if row is None else ("rules", row))

    def test_ops_under_a_cap(self):
        sorts = [("s", (), ("u",))]
        makings = [("m", "s", ())]
        for cap in range(10):
            for op, many in PARTS.items():
                rules = [("m", ("at", 0, "u"), op, tuple([("number", TOP)] * many))]
                let = cap == 0 or op in ("copy", "plus", "least", "most")
                self.due((sorts, makings, rules, cap), None if let else ("rules", 0))


class Alike(unittest.TestCase):
    def both(self, one, other, due):
        same(self, one == other, due)
        same(self, other == one, due)
        same(self, one != other, not due)

    def test_in_other_orders(self):
        rng = random.Random(21)
        for rows in WRITTEN + grammars_by_chance(22, 60):
            turned = copied(rows)
            for part in turned[:3]:
                rng.shuffle(part)
            self.both(made(rows), made(turned), True)
            self.both(made(rows), made(rows), True)

    def test_one_thing_otherwise(self):
        for rows in (CAPPED, PICKED, LETS):
            alike = 0
            for at in range(4):
                for other in spoilt(rows[at]):
                    parts = list(rows)
                    parts[at] = other
                    if first_bad(*parts) is None:
                        due = [repr(sorted(part)) for part in parts[:3]] == [repr(sorted(part)) for part in rows[:3]]
                        alike += due
                        self.both(made(rows), made(tuple(parts)), due and parts[3] == rows[3])
            self.assertGreater(alike, 0)

    def test_left_out(self):
        for rows in grammars_by_chance(23, 30):
            for at in range(3):
                for row in range(len(rows[at])):
                    parts = list(rows)
                    parts[at] = rows[at][:row] + rows[at][row + 1:]
                    if first_bad(*parts) is None:
                        self.both(made(rows), made(tuple(parts)), False)

    def test_other_things(self):
        for thing in THINGS:
            self.both(made(EMPTY), thing, False)
            self.both(made(LETS), thing, False)
        self.both(made(LETS), made(EMPTY), False)

    def test_cap_alone(self):
        for cap in range(10):
            for other in range(10):
                self.both(made(([], [], [], cap)), made(([], [], [], other)), cap == other)


if __name__ == "__main__":
    unittest.main()
