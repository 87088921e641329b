import random
import unittest

from helper import (
    LET_MAKINGS, LET_RULES, LET_SORTS, LETS, PARTS, Asking, copied, first_bad, grammars_by_chance, made,
    number_by_chance, rows_of, rules_so, same, shuffled, spots_due, trees_by_chance, worths_of,
)
from threereckons.demand import Demand, by_demand
from threereckons.errors import BadGrammar, Clash, Lacks, Ring
from threereckons.grammar import Grammar
from threereckons.gramtext import grammar_in
from threereckons.joining import clashes, joined


def clashes_due(one, other):
    """By the words of [17], of rows."""
    found = []
    if one[3] != other[3]:
        found.append(("cap", "", one[3], other[3]))
    for word, at in (("sort", 0), ("making", 1)):
        for mine in one[at]:
            found += [(word, mine[0], mine[1:], row[1:]) for row in other[at] if row[0] == mine[0] and row != mine]
    for mine in one[2]:
        found += [("rule", mine[0], mine[1:], row[1:]) for row in other[2] if row[:2] == mine[:2] and row != mine]
    return sorted(found)


def joined_due(one, other):
    parts = []
    for at, names in ((0, 1), (1, 1), (2, 2)):
        known = [row[:names] for row in one[at]]
        parts.append(one[at] + [row for row in other[at] if row[:names] not in known])
    return (*parts, one[3])


def half_of(rng, rows):
    """A grammar of some of a grammar's rows."""
    sorts, makings, rules, cap = rows
    taken = [row for row in makings if rng.random() < 0.6]
    named = {sort for making, sort, parts in taken for sort in (sort, *parts)}
    kept = [row for row in sorts if row[0] in named or rng.random() < 0.5]
    names = [row[0] for row in taken]
    return shuffled(rng, (kept, taken, [row for row in rules if row[0] in names and rng.random() < 0.8], cap))


def otherwise(rng, rows):
    """The grammar with something told otherwise, and without the rules that can't stand then."""
    sorts, makings, rules, cap = [list(part) if type(part) is list else part for part in rows]
    kind = rng.choice(["cap", "sort", "making", "rule", "rule", "whole making"])
    if kind == "cap":
        cap = rng.randint(1, 9) if cap else 0
    if kind == "sort" and sorts:
        at = rng.randrange(len(sorts))
        sort, downs, ups = sorts[at]
        sorts[at] = rng.choice([(sort, downs[::-1], ups[::-1]), (sort, ups, downs), (sort, downs[1:], ups), (sort, downs, ups[:1])])
    if kind in ("making", "whole making") and makings:
        at = rng.randrange(len(makings))
        making, sort, parts = makings[at]
        names = [row[0] for row in sorts]
        makings[at] = (making, rng.choice(names) if kind == "whole making" else sort,
                       rng.choice([parts[::-1], parts[1:], (*parts, rng.choice(names))[-2:]]))
    if kind == "rule" and rules:
        at = rng.randrange(len(rules))
        making, target, op, terms = rules[at]
        like = [other for other in (PARTS if not cap else ("copy", "plus", "least", "most")) if PARTS[other] == PARTS[op]]
        rules[at] = (making, target, rng.choice(like), tuple(rng.choice([term, ("number", number_by_chance(rng))]) for term in terms))
    standing = []
    for row in rules:
        if rules_so(standing + [row], sorts, makings, cap):
            standing.append(row)
    return (sorts, makings, standing, cap)


class WrittenOut(Asking):
    def test_one_with_itself_and_with_nothing(self):
        lets, nothing = made(LETS), Grammar([], [], [])
        same(self, clashes(lets, lets), [])
        same(self, str(joined(lets, lets)), str(lets))
        same(self, str(joined(lets, nothing)), str(lets))
        same(self, str(joined(nothing, lets)), str(lets))
        same(self, str(joined(other=nothing, one=nothing)), "")
        same(self, clashes(other=lets, one=nothing), [])

    def test_each_kind(self):
        one = grammar_in("sort s d / u\nsort t / v\nmake m s t\nmake n t\nrule m 0.u copy 1.v\nrule m k copy own\nrule n 0.v copy own")
        other = grammar_in("cap 3\nsort s / d u\nsort t / v\nmake n t\nmake m s t t\nrule m 0.u plus 2.v 7\nrule m k copy 8\nrule n 0.v copy own")
        due = [
            ("cap", "", 0, 3), ("making", "m", ("s", ("t",)), ("s", ("t", "t"))),
            ("rule", "m", (("at", 0, "u"), "copy", (("at", 1, "v"),)), (("at", 0, "u"), "plus", (("at", 2, "v"), ("number", 7)))),
            ("rule", "m", (("kept", "k"), "copy", (("own",),)), (("kept", "k"), "copy", (("number", 8),))),
            ("sort", "s", (("d",), ("u",)), ((), ("d", "u"))),
        ]
        same(self, clashes(one, other), due)
        same(self, clashes(other, one), [(word, name, theirs, mine) for word, name, mine, theirs in due])
        self.refused(Clash, "clash", due[0], joined, one, other)
        self.refused(Clash, "clash", ("cap", "", 3, 0), joined, other, one)

    def test_rules_of_a_making_told_alike(self):
        one = grammar_in("sort s / u\nmake m s\nrule m 0.u copy own")
        other = grammar_in("sort s / u\nmake m s\nrule m 0.u copy 3\nrule m k copy own")
        clash = ("rule", "m", (("at", 0, "u"), "copy", (("own",),)), (("at", 0, "u"), "copy", (("number", 3),)))
        same(self, clashes(one, other), [clash])
        self.refused(Clash, "clash", clash, joined, one, other)

    def test_the_rows_come_one_behind_the_other(self):
        one = grammar_in("sort b / u\nsort a / u\nmake n b\nmake m a\nrule n 0.u copy own")
        other = grammar_in("sort c / w\nsort a / u\nmake x c\nmake m a\nmake l a c\nrule m 0.u copy 2\nrule l 0.u copy 1.w\nrule m k copy own")
        due = ("sort b / u\nsort a / u\nsort c / w\nmake n b\nmake m a\nmake x c\nmake l a c\nrule n 0.u copy own\n"
               "rule m 0.u copy 2\nrule l 0.u copy 1.w\nrule m k copy own")
        same(self, str(joined(one, other)), due)
        self.assertTrue(joined(one, other) == joined(other, one))
        self.assertIs(type(joined(one, other)), Grammar)

    def test_beyond_the_bounds(self):
        def bad(part, row, one, other):
            with self.assertRaises(BadGrammar) as caught:
                joined(one, other)
            self.assertIs(type(caught.exception), BadGrammar)
            same(self, (caught.exception.part, caught.exception.row), (part, row))

        sorts = [(name, (), ("u",)) for name in "abcde"]
        bad("sorts", 4, Grammar(sorts[:4], [], []), Grammar(sorts[2:], [], []))
        bad("sorts", 4, Grammar(sorts[:3], [], []), Grammar(sorts[1:], [], []))
        makings = [(name, "a", ()) for name in "mnopqrstx"]
        bad("makings", 8, Grammar(sorts[:1], makings[:8], []), Grammar(sorts[:1], makings[8:], []))
        bad("makings", 8, Grammar(sorts[:1], makings[:2], []), Grammar(sorts[:2], makings[2:], []))
        rules = [("m", ("kept", name), "copy", (("own",),)) for name in "ijk"]
        bad("rules", 2, Grammar(sorts[:1], makings[:1], rules[:2]), Grammar(sorts[:1], makings[:1], rules[1:]))
        bad("rules", 1, Grammar(sorts[:1], makings[:1], [("m", ("at", 0, "u"), "plus", (("kept", "x"), ("kept", "y")))]),
            Grammar(sorts[:1], makings[:1], rules[:1]))
        # A clash goes ahead.
        self.refused(Clash, "clash", ("cap", "", 0, 1), joined, Grammar(sorts[:4], [], []), Grammar(sorts[2:], [], [], cap=1))
        clash = ("sort", "d", ((), ("u",)), ((), ()))
        self.refused(Clash, "clash", clash, joined, Grammar(sorts[:4], [], []), Grammar([("d", (), ()), sorts[4]], [], []))


class ByChance(Asking):
    def due(self, one, other):
        """Beside the words, both ways about; what is joined, or None."""
        found = clashes_due(one, other)
        same(self, clashes(made(one), made(other)), found)
        turned = sorted((word, name, theirs, mine) for word, name, mine, theirs in found)
        same(self, clashes(made(other), made(one)), turned)
        if found:
            self.refused(Clash, "clash", found[0], joined, made(one), made(other))
            return None
        whole = joined_due(one, other)
        bad = first_bad(*whole)
        if bad is None:
            told = joined(made(one), made(other))
            same(self, rows_of(told), whole)
            return told
        with self.assertRaises(BadGrammar) as caught:
            joined(made(one), made(other))
        same(self, (caught.exception.part, caught.exception.row), bad)
        return None

    def test_halves(self):
        rng = random.Random(211)
        for rows in [LETS, *grammars_by_chance(212, 120)]:
            one, other = half_of(rng, rows), half_of(rng, rows)
            told = self.due(one, other)
            self.assertIsNotNone(told)
            self.assertTrue(told == joined(made(other), made(one)))
            self.assertTrue(joined(told, made(rows)) == made(rows))
            self.assertTrue(joined(made(one), made(one)) == made(one))

    def test_three_together(self):
        rng = random.Random(213)
        for rows in grammars_by_chance(214, 80):
            one, two, three = [made(half_of(rng, rows)) for step in range(3)]
            left = joined(joined(one, two), three)
            self.assertTrue(left == joined(one, joined(two, three)))
            same(self, str(left), str(joined(one, joined(two, three))))
            self.assertTrue(left == joined(three, joined(two, one)))

    def test_something_otherwise(self):
        rng = random.Random(215)
        words = []
        for rows in [LETS, *grammars_by_chance(216, 300)]:
            other = rows
            for step in range(rng.choice([1, 1, 3])):
                other = otherwise(rng, other)
            self.due(rows, other)
            self.due(half_of(rng, rows), shuffled(rng, other))
            words += [row[0] for row in clashes_due(rows, other)]
        for word in ("cap", "sort", "making", "rule"):
            self.assertGreater(words.count(word), 15, word)

    def test_grammars_that_have_little_in_common(self):
        told = grammars_by_chance(217, 200, cap=0)
        joins = beyond = 0
        for one, other in zip(told, told[1:]):
            found = self.due(one, other)
            joins += found is not None
            beyond += found is None and not clashes_due(one, other)
        self.assertGreater(joins, 10)
        self.assertGreater(beyond, 10)


class Worths(Asking):
    def told(self, rows, tree, given):
        """By each spot its number, None where it lacks, "ring" where it hangs on one."""
        demand = Demand(made(rows), tree, given=given)
        found = {}
        for path, name in spots_due(rows, tree):
            try:
                found[(path, name)] = demand.worth(path, name)
            except Lacks:
                found[(path, name)] = None
            except Ring:
                found[(path, name)] = "ring"
        return found

    def test_of_a_half_in_both_together(self):
        rng = random.Random(218)
        compared = more = 0
        for rows in grammars_by_chance(219, 150):
            one, other = half_of(rng, rows), half_of(rng, rows)
            whole = rows_of(joined(made(one), made(other)))
            for half in (one, other):
                for tree in trees_by_chance(rng, half, 2, 12):
                    given = [(down, number_by_chance(rng)) for down in worths_of(half, tree[0])[0] if rng.random() < 0.5]
                    mine, both = self.told(half, tree, given), self.told(whole, tree, given)
                    for spot in mine:
                        if mine[spot] is None:
                            more += both[spot] is not None
                        else:
                            same(self, both[spot], mine[spot])
                            compared += 1
        self.assertGreater(compared, 500)
        self.assertGreater(more, 20)

    def test_written_out(self):
        one = Grammar(LET_SORTS, LET_MAKINGS, LET_RULES[:5])
        other = Grammar(LET_SORTS, LET_MAKINGS[1:], LET_RULES[5:])
        tree = ("root", 1, (("let", 3, (("leaf", 4, ()), ("use", 0, ()))),))
        self.assertEqual([row[2] for row in by_demand(one, tree)], [None, None, None, None, 21, None, 4, 25, None])
        self.assertEqual([row[2] for row in by_demand(joined(one, other), tree)], [10, None, 5, 25, 21, 5, 4, 25, 25])


class HandedIn(Asking):
    def test_nothing_is_changed(self):
        rng = random.Random(220)
        for rows in grammars_by_chance(221, 40):
            one, other = made(half_of(rng, rows)), made(otherwise(rng, rows))
            shown = str(one), str(other)
            told = clashes(one, other)
            kept = copied(told)
            told.append(None)
            told.reverse()
            same(self, clashes(one, other), kept)
            self.assertIsNot(clashes(one, other), clashes(one, other))
            whole = joined(one, one)
            whole.sorts().clear()
            whole.rules().clear()
            self.assertEqual((str(one), str(other)), shown)
            self.assertTrue(whole == one)


if __name__ == "__main__":
    unittest.main()
