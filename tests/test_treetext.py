import random
import unittest

from helper import (
    LET_MAKINGS, LET_RULES, LET_SORTS, TOP, grammars_by_chance, number_by_chance, same, size_of, trees_by_chance,
)
from threereckons.errors import BadText, NoTree
from threereckons.grammar import Grammar
from threereckons.treetext import tree_in, tree_of, tree_text

LETS = Grammar(LET_SORTS, LET_MAKINGS, LET_RULES)
SIGNS = [chr(code) for code in range(32, 127) if chr(code) != "%"]
LETTERS = "abcdefghijklmnopqrstuvwxyz"


def bad_at(text):
    """The place at which no text of a tree goes on so, sign by sign; None where it's one."""
    brackets = []
    state, word = "begin", ""
    for at, sign in enumerate(text):
        ended = state == "closed" or state == "number" or (state == "name" and word != "own")
        if state == "begin" and sign in LETTERS:
            state, word = "name", sign
        elif state == "name" and sign in LETTERS and len(word) < 6:
            word += sign
        elif state == "name" and ended and sign == ":":
            state, word = "colon", ""
        elif state == "colon" and sign in "123456789":
            state, word = "number", sign
        elif state == "number" and sign in "0123456789" and len(word) < 6:
            word += sign
        elif ended and state != "closed" and sign == "(" and len(brackets) < 30:
            brackets.append(1)
            state = "begin"
        elif ended and sign == "," and brackets and brackets[-1] == 1:
            brackets[-1] = 2
            state = "begin"
        elif ended and sign == ")" and brackets:
            brackets.pop()
            state = "closed"
        else:
            return at
    ended = state == "closed" or state == "number" or (state == "name" and word != "own")
    return None if ended and not brackets else len(text)


def name_by_chance(rng):
    while True:
        name = "".join(rng.choices("ownabz", k=rng.randint(1, 6)))
        if name != "own":
            return name


def any_tree(rng, nodes, deep=0):
    """A tree of whatever NAMEs, of so many nodes, paths to thirty places."""
    name, own = name_by_chance(rng), number_by_chance(rng)
    if nodes == 1 or deep == 30:
        return (name, own, ())
    if nodes == 2 or rng.random() < 0.2:
        return (name, own, (any_tree(rng, nodes - 1, deep + 1),))
    first = rng.choice([1, nodes - 2, rng.randint(1, nodes - 2)])
    return (name, own, (any_tree(rng, first, deep + 1), any_tree(rng, nodes - 1 - first, deep + 1)))


def chain_text(places):
    return "a(" * places + "a" + ")" * places


def texts_by_chance(seed, many, nodes):
    rng = random.Random(seed)
    return [tree_text(any_tree(rng, rng.randint(1, nodes))) for step in range(many)]


class Writing(unittest.TestCase):
    def test_written_out(self):
        rows = [
            (("leaf", 0, ()), "leaf"), (("leaf", 4, ()), "leaf:4"), (("abcdef", TOP, ()), "abcdef:999999"),
            (("add", 3, (("leaf", 4, ()), ("leaf", 0, ()))), "add:3(leaf:4,leaf)"),
            (("root", 0, (("leaf", 10, ()),)), "root(leaf:10)"),
            (("a", 0, (("b", 0, (("c", 1, ()),)), ("d", 20, (("e", 0, ()), ("f", 0, ()))))), "a(b(c:1),d:20(e,f))"),
        ]
        for tree, text in rows:
            self.assertEqual(tree_text(tree), text)
            self.assertEqual(tree_text(tree=tree), text)
            same(self, tree_in(text), tree)
            same(self, tree_in(text=text), tree)

    def test_there_and_back(self):
        rng = random.Random(71)
        for nodes in list(range(1, 101)) * 3:
            tree = any_tree(rng, nodes)
            self.assertLessEqual(size_of(tree), 100)
            text = tree_text(tree)
            if len(text) <= 1200:
                same(self, tree_in(text), tree)
                self.assertIs(bad_at(text), None)
            self.assertEqual(tree_text(tree), text)

    def test_numbers(self):
        for own in [0, 1, 9, 10, 11, 99, 100, 12345, 100000, 999998, TOP]:
            text = f"a:{own}" if own else "a"
            self.assertEqual(tree_text(("a", own, ())), text)
            same(self, tree_in(text), ("a", own, ()))

    def test_paths(self):
        for places in range(31):
            tree = tree_in(chain_text(places))
            self.assertEqual(size_of(tree), places + 1)
            self.assertEqual(tree_text(tree), chain_text(places))
        wide = "a(b," * 30 + "c" + ")" * 30
        self.assertEqual(tree_text(tree_in(wide)), wide)


class Refusing(unittest.TestCase):
    def due(self, text):
        at = bad_at(text)
        if at is None:
            self.assertEqual(tree_text(tree_in(text)), text)
            return False
        for ask in (tree_in, lambda text: tree_of(LETS, text), lambda text: tree_of(LETS, text, sort="exp")):
            with self.assertRaises(BadText, msg=text) as caught:
                ask(text)
            self.assertIs(type(caught.exception), BadText)
            self.assertEqual((text, caught.exception.at), (text, at))
        return True

    def test_written_out(self):
        rows = [
            ("", 0), (" ", 0), ("A", 0), ("1", 0), (":", 0), ("(", 0), (")", 0), (",", 0), ("a ", 1), (" a", 0),
            ("abcdefg", 6), ("abcdefg:1", 6), ("own", 3), ("own:1", 3), ("own(a)", 3), ("own,", 3), ("a(own)", 5),
            ("a(own,b)", 5), ("a(own", 5), ("ow", None), ("owna", None), ("ownabc", None), ("ownabcd", 6), ("oown", None),
            ("a:", 2), ("a:0", 2), ("a:01", 2), ("a:00", 2), ("a:1", None), ("a:x", 2), ("a:-1", 2), ("a:1a", 3),
            ("a:999999", None), ("a:1000000", 8), ("a:9999999", 8), ("a:1234567(b)", 8), ("a:1:1", 3), ("a::1", 2),
            ("a()", 2), ("a(", 2), ("a(,b)", 2), ("a(b", 3), ("a(b,", 4), ("a(b,)", 4), ("a(b,c", 5), ("a(b,c,", 5),
            ("a(b,c,d)", 5), ("a(b))", 4), ("a(b),", 4), ("a,b", 1), ("a)", 1), ("a(b)c", 4), ("a(b):1", 4), ("a(b)(c)", 4),
            ("a(b c)", 3), ("a(b,c)d", 6), ("a(b(c)", 6), ("a((b))", 2), ("a(b:1", 5), ("a(b:,c)", 4), ("a\n", 1), ("\na", 0),
            ("a(b,c)\n", 6), ("a.b", 1), ("a(b;c)", 3), ("a:1.", 3), ("a(b:0)", 4), ("a(b,c(d,e,f))", 9),
            (chain_text(30), None), (chain_text(31), 61), ("a(" * 31, 61), ("a(" * 30, 60), ("a(" * 30 + "a:5(", 63),
            ("a(b," * 30 + "c(", 121),
        ]
        for text, at in rows:
            self.assertEqual(bad_at(text), at, text)
            self.due(text)

    def test_a_sign_otherwise_at_any_place(self):
        rng = random.Random(72)
        refused = 0
        texts = ["add:3(leaf:4,leaf)", "own(owna,b:10)", "ownx:999999(abcdef(a:1),z)", chain_text(30)[:80]]
        texts += texts_by_chance(73, 25, 12) + texts_by_chance(74, 3, 100)
        for text in texts:
            for at in range(len(text) + 1):
                for sign in ["a", "o", "0", "7", ":", "(", ")", ",", rng.choice(SIGNS)]:
                    refused += self.due(text[:at] + sign + text[at:])
                    refused += self.due(text[:at] + sign + text[at + 1:])
                refused += self.due(text[:at] + text[at + 1:])
                refused += self.due(text[:at])
                refused += self.due(text[at:])
        self.assertGreater(refused, 5000)

    def test_own_put_for_a_name(self):
        for text in texts_by_chance(75, 40, 10):
            for at in range(len(text)):
                if text[at] in LETTERS and (at == 0 or text[at - 1] not in LETTERS):
                    behind = at
                    while behind < len(text) and text[behind] in LETTERS:
                        behind += 1
                    spoilt = text[:at] + "own" + text[behind:]
                    self.assertEqual(bad_at(spoilt), at + 3)
                    self.due(spoilt)

    def test_texts_of_any_signs(self):
        rng = random.Random(76)
        for step in range(600):
            signs = rng.choice([SIGNS, "ab(),:10", "own(),", "a(,)", "a:123456789", SIGNS + ["\n"]])
            self.due("".join(rng.choices(signs, k=rng.choice([1, 2, 3, 5, 8, 20, 100, 1200]))))
        for sign in SIGNS + ["\n"]:
            self.due(sign)
            self.due("a" + sign)
            self.due("a(b" + sign)
            self.due(sign * 1200)

    def test_all_short_texts(self):
        texts = [""]
        for many in range(6):
            for text in texts:
                self.due(text)
            texts = [text + sign for text in texts for sign in "a(),:1"]


class OfAGrammar(unittest.TestCase):
    def refused(self, grammar, text, **told):
        with self.assertRaises(NoTree) as caught:
            tree_of(grammar, text, **told)
        self.assertIs(type(caught.exception), NoTree)
        same(self, caught.exception.thing, text)

    def test_written_out(self):
        leaf = ("leaf", 7, ())
        same(self, tree_of(LETS, "leaf:7"), leaf)
        same(self, tree_of(LETS, "leaf:7", sort="exp"), leaf)
        same(self, tree_of(LETS, "leaf:7", sort=None), leaf)
        same(self, tree_of(sort="top", text="root(leaf:7)", grammar=LETS), ("root", 0, (leaf,)))
        for text in ("x", "leaf(leaf)", "let(leaf)", "root", "root(leaf,leaf)", "root(root(leaf))", "exp", "let(leaf,x)"):
            self.refused(LETS, text)
            self.refused(LETS, text, sort="exp")
            self.refused(LETS, text, sort="top")
        self.refused(LETS, "leaf", sort="top")
        self.refused(LETS, "root(leaf)", sort="exp")
        self.refused(LETS, "leaf", sort="none")
        self.refused(Grammar([], [], []), "leaf")

    def test_by_chance(self):
        rng = random.Random(77)
        for rows in grammars_by_chance(78, 40):
            grammar = Grammar(rows[0], rows[1], rows[2], cap=rows[3])
            for tree in trees_by_chance(rng, rows, 3, 40):
                text = tree_text(tree)
                home = [sort for making, sort, parts in rows[1] if making == tree[0]][0]
                same(self, tree_of(grammar, text), tree)
                for sort in [row[0] for row in rows[0]] + ["x"]:
                    if sort == home:
                        same(self, tree_of(grammar, text, sort=sort), tree)
                    else:
                        self.refused(grammar, text, sort=sort)
                self.refused(LETS, text.replace("leaf", "x").replace("use", "x").replace("let", "x"))

    def test_a_bad_text_goes_first(self):
        with self.assertRaises(BadText):
            tree_of(LETS, "none(", sort="none")

    def test_sort_by_its_name_alone(self):
        with self.assertRaises(TypeError):
            tree_of(LETS, "leaf", "exp")


if __name__ == "__main__":
    unittest.main()
