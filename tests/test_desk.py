import random
import re
import unittest

from helper import LET_TEXT, PARTS, Asking, ShopDue, is_name, same
from test_workshop import CAPPED, CHAIN, SMALL, deed_by_chance
from threereckons.desk import answers
from threereckons.errors import (
    BadRow, BadText, NoCap, NoGiven, NoName, NoNode, NoSpot, NoTree, Ring, Ringed, Taken, TooMuch,
)
from threereckons.graphs import graphs_of
from threereckons.least import least_tree
from threereckons.plans import Plans
from threereckons.rings import ring_ahead
from threereckons.treetext import tree_in, tree_text
from threereckons.workshop import Workshop

REFUSALS = (BadRow, NoCap, NoGiven, NoName, NoNode, NoSpot, NoTree, Ring, Ringed, Taken, TooMuch)
SHAPES = {
    "lay": "n", "plant": "nnt", "put": "npt", "mark": "np#", "give": "nn-", "uproot": "n", "undo": "", "ask": "npn", "tree": "n",
    "road": "npn", "worths": "n", "rest": "n", "least": "nn", "ring": "n", "orders": "n", "graphs": "nn", "total": "", "names": "",
}
RINGED = "sort s d / u\nmake m s s\nmake z s\nrule m 1.d copy 1.u\nrule z 0.u copy 0.d"


# --- what may be written, by the words of the document ---


def number_so(word):
    return re.fullmatch("0|[1-9][0-9]{0,5}", word) is not None


def tree_so(word):
    try:
        tree_in(word)
    except BadText:
        return False
    return True


def word_so(kind, word):
    if kind == "n":
        return is_name(word)
    if kind == "p":
        return re.fullmatch(r"\.|[12](\.[12]){0,29}", word) is not None
    if kind == "t":
        return tree_so(word)
    return number_so(word) or kind == "-" and word == "-"


def order_so(row):
    word, *rest = row.split(" ")
    if word not in SHAPES:
        return False
    shape = SHAPES[word]
    if word == "plant" and len(rest) > 3 and len(rest) % 2 == 1:
        shape += "n#" * ((len(rest) - 3) // 2)
    return len(rest) == len(shape) and all(map(word_so, shape, rest))


def target_so(word):
    return is_name(word) or re.fullmatch(r"[012]\..*", word) is not None and is_name(word[2:])


def grammar_row_so(row):
    word, *rest = row.split(" ")
    if word == "cap":
        return len(rest) == 1 and number_so(rest[0]) and rest[0] != "0"
    if word == "sort":
        bars = [at for at, each in enumerate(rest) if each == "/"]
        return len(bars) == 1 and bars[0] > 0 and all(is_name(each) for each in rest if each != "/")
    if word == "make":
        return len(rest) >= 2 and all(map(is_name, rest))
    if word == "rule" and len(rest) >= 3:
        terms = all(target_so(each) or each == "own" or number_so(each) for each in rest[3:])
        return is_name(rest[0]) and target_so(rest[1]) and rest[2] in PARTS and terms
    return False


def bad_row_due(text):
    """The number of the first row that isn't so written; None where all are."""
    rows = text.split("\n")
    laying = False
    for at, row in enumerate(rows):
        if row == "":
            continue
        if laying:
            if row == "end":
                laying = False
            elif not grammar_row_so(row):
                return at
        elif not order_so(row):
            return at
        elif row.startswith("lay "):
            if "end" not in rows[at:]:
                return at
            laying = True
    return None


# --- what is answered, of a Workshop told the same ---


def path_text(path):
    return ".".join(map(str, path)) if path else "."


def path_of(word):
    return tuple(int(place) for place in word.split(".") if place)


def shown(number):
    return "-" if number is None else str(number)


def told(shop, word, rest):
    if word == "lay":
        return str(shop.lay(*rest))
    if word == "plant":
        return str(shop.plant(*rest[:3], given=[(down, int(number)) for down, number in zip(rest[3::2], rest[4::2])]))
    if word == "put":
        return str(shop.put(rest[0], path_of(rest[1]), rest[2]))
    if word == "mark":
        return str(shop.mark(rest[0], path_of(rest[1]), int(rest[2])))
    if word == "give":
        return str(shop.give(rest[0], rest[1], None if rest[2] == "-" else int(rest[2])))
    if word == "uproot":
        return str(shop.uproot(*rest))
    if word == "undo":
        return "done" if shop.undo() else "nothing"
    if word == "ask":
        return shown(shop.ask(rest[0], path_of(rest[1]), rest[2]))
    if word == "tree":
        return shop.tree(*rest)
    if word == "road":
        return " ".join(f"{path_text(path)}:{name}" for path, name in shop.road(rest[0], path_of(rest[1]), rest[2])) or "-"
    if word == "worths":
        return " ".join(f"{path_text(path)}:{name}:{shown(number)}" for path, name, number in shop.worths(*rest)) or "-"
    if word == "rest":
        return " ".join(f"{path_text(path)}:{name}:{shown(number)}:{since}" for path, name, number, since in shop.rest(*rest)) or "-"
    if word == "least":
        tree = least_tree(shop.grammar(rest[0]), rest[1])
        return "-" if tree is None else tree_text(tree)
    if word == "ring":
        found = ring_ahead(shop.grammar(*rest))
        return "-" if found is None else tree_text(found[0])
    if word == "orders":
        return str(len(Plans(shop.grammar(*rest))))
    if word == "graphs":
        return str(len(graphs_of(shop.grammar(rest[0]), rest[1])))
    if word == "total":
        return str(shop.total())
    return " ".join(sum(shop.names(), [])) or "-"


def answers_due(text, limit=400):
    shop = Workshop(limit=limit)
    found, laid = [], None
    for row in text.split("\n"):
        if row == "":
            continue
        word, *rest = row.split(" ")
        if laid is not None and row != "end":
            laid.append(row)
            continue
        if word == "lay":
            laid, name = [], rest[0]
            continue
        if word == "end":
            word, rest, laid = "lay", [name, "\n".join(laid)], None
        try:
            found.append(told(shop, word, rest))
        except REFUSALS as caught:
            found.append("refused " + type(caught).__name__)
    return found


def laid(name, text):
    return f"lay {name}\n{text}\nend" if text else f"lay {name}\nend"


class WrittenOut(Asking):
    def due(self, rows):
        text = "\n".join(order for order, answer in rows)
        same(self, answers(text), [answer for order, answer in rows])
        # Empty rows anywhere are passed over.
        same(self, answers("\n\n" + text.replace("\n", "\n\n\n") + "\n\n"), [answer for order, answer in rows])
        same(self, answers_due(text), [answer for order, answer in rows])

    def test_nothing(self):
        same(self, answers(""), [])
        same(self, answers("\n\n\n"), [])
        same(self, answers(text="names", limit=0), ["-"])
        with self.assertRaises(TypeError):
            answers("", 3)

    def test_every_order(self):
        self.due([
            ("names", "-"), ("total", "0"), ("undo", "nothing"), (laid("g", LET_TEXT), "0"), (laid("c", "cap 4\n" + CHAIN), "0"),
            (laid("e", ""), "0"), (laid("r", RINGED), "0"), ("plant t g root:1(let:3(leaf:4,use))", "8"),
            ("plant u c n(z:1) d 9", "3"), ("names", "c e g r t u"), ("ask t 1.2 val", "25"), ("ask t . size", "-"),
            ("tree t", "root:1(let:3(leaf:4,use))"), ("road t . size", ".:size"), ("road t . out", "-"),
            ("worths u", ".:d:4 .:u:4 1:d:4 1:u:4"), ("rest u", ".:d:4:0 .:u:4:3 1:d:4:1 1:u:4:2"), ("rest t", "refused NoCap"),
            ("mark t 1.1 9", "5"), ("put t 1.2 leaf:7", "3"), ("give u d -", "3"), ("worths u", ".:d:- .:u:- 1:d:- 1:u:-"),
            ("rest u", ".:d:-:0 .:u:-:0 1:d:-:0 1:u:-:0"), ("road u . u", ".:u 1:u 1:d .:d"), ("give u d 0", "3"), ("total", "25"),
            ("uproot t", "0"), ("tree t", "refused NoName"), ("undo", "done"), ("tree t", "root:1(let:3(leaf:9,leaf:7))"),
            ("least g exp", "leaf"), ("least g top", "root(leaf)"), ("least g x", "refused NoName"), ("ring g", "-"), ("ring r", "m(z)"),
            ("ring c", "back(z)"), ("orders g", "12"), ("orders r", "refused Ringed"), ("orders e", "0"), ("graphs g exp", "2"),
            ("graphs r s", "2"), ("graphs e s", "refused NoName"), ("least r s", "z"), ("ring x", "refused NoName"),
            ("orders t", "refused NoName"), ("graphs t s", "refused NoName"), ("least x s", "refused NoName"),
        ])

    def test_none_of_a_sort_without_trees(self):
        self.due([(laid("g", "sort s / u\nmake m s s"), "0"), ("least g s", "-"), ("graphs g s", "0"), ("ring g", "-"), ("orders g", "0")])

    def test_two_that_are_given(self):
        grammar = laid("g", "sort s d e / u\nmake z s\nrule z 0.u less 0.d 0.e")
        self.due([(grammar, "0"), ("plant t g z d 7 e 3", "1"), ("worths t", ".:d:7 .:e:3 .:u:4"), ("plant u g z e 3 d 7", "1"),
                  ("worths u", ".:d:7 .:e:3 .:u:4"), ("plant v g z e 5", "1"), ("worths v", ".:d:- .:e:5 .:u:-"),
                  ("plant w g z d 1 e 2 d 3", "refused NoGiven")])

    def test_a_tree_without_spots(self):
        self.due([(laid("g", "cap 1\nsort s /\nmake m s"), "0"), ("plant t g m", "0"), ("worths t", "-"), ("rest t", "-")])

    def test_each_refusal(self):
        self.due([
            (laid("g", CHAIN), "0"), (laid("g", SMALL), "refused Taken"), (laid("h", "cap 4\ncap 5"), "refused BadRow"),
            (laid("h", "sort s a b c / u"), "refused BadRow"), (laid("h", "make m s"), "refused BadRow"),
            (laid("h", "rule m 0.u copy"), "refused BadRow"), (laid("h", "cap 77"), "refused BadRow"), (laid("k", CAPPED), "0"),
            ("plant g x z", "refused Taken"), ("plant t x z", "refused NoName"), ("plant t g leaf", "refused NoTree"),
            ("plant t g z x 1", "refused NoGiven"), ("plant t g z d 1 d 1", "refused NoGiven"), ("plant t g back(z)", "refused Ring"),
            ("plant t k z", "refused Ring"), ("plant t g z d 1", "1"), ("plant t g z", "refused Taken"),
            ("put x . z", "refused NoName"), ("put t 1 z", "refused NoNode"), ("put t . leaf", "refused NoTree"),
            ("put t . back(z)", "refused Ring"), ("mark x . 1", "refused NoName"), ("mark t 2.1 1", "refused NoNode"),
            ("give x d 1", "refused NoName"), ("give t u 1", "refused NoGiven"), ("uproot g", "refused NoName"),
            ("ask x . u", "refused NoName"), ("ask t 1 u", "refused NoSpot"), ("ask t . x", "refused NoSpot"),
            ("road t 1 u", "refused NoSpot"), ("rest t", "refused NoCap"), ("worths g", "refused NoName"), ("total", "1"), ("names", "g k t"),
        ])

    def test_limits(self):
        text = "\n".join([laid("g", CHAIN), "plant t g n(z)", "plant u g z", "mark u . 3", "total"])
        same(self, answers(text), ["0", "3", "1", "1", "5"])
        same(self, answers(text, limit=3), ["0", "3", "1", "1", "5"])
        same(self, answers(text, limit=2), ["0", "refused TooMuch", "1", "1", "2"])
        same(self, answers(text, limit=0), ["0", "refused TooMuch", "refused TooMuch", "refused NoName", "0"])

    def test_rounds(self):
        """A ring that the upkeep of a tree bars can't be planted, so rest takes few rounds."""
        tree = "n(" * 7 + "z" + ")" * 7
        self.due([(laid("g", "cap 9\n" + CHAIN), "0"), (f"plant t g {tree} d 3", "15"), ("ask t . u", "9")])
        same(self, answers(laid("g", "cap 9\n" + CHAIN) + f"\nplant t g {tree} d 3\nrest t")[2].split(" ")[1], ".:u:9:15")

    def test_a_path_of_thirty_places(self):
        tree = "n(" * 30 + "z" + ")" * 30
        path = ".".join(["1"] * 30)
        self.due([(laid("g", CHAIN), "0"), (f"plant t g {tree} d 0", "61"), (f"ask t {path} d", "30"), (f"mark t {path} 5", "31")])
        self.refused(BadRow, "row", 1, answers, f"\nask t {path}.1 d")


class BadRows(Asking):
    def due(self, text):
        at = bad_row_due(text)
        if at is None:
            same(self, answers(text), answers_due(text))
        else:
            self.refused(BadRow, "row", at, answers, text)
            self.refused(BadRow, "row", at, answers, text, limit=0)
        return at is not None

    def test_lay_and_end(self):
        rows = [
            (["end"], 0), (["names", "", "end"], 2), (["lay g"], 0), (["names", "lay g", "sort s /"], 1), (["lay g", "bad", "x"], 0),
            (["lay g", "lay h"], 0), (["lay g", "lay h", "end"], 1), (["lay g", "lay h", "end", "end"], 1), (["lay g", "end", "end"], 2),
            (["lay g", "bad", "lay h", "end"], 1), (["lay g", "sort s /", "lay g", "end"], 2), (["lay g", "end", "lay h", "cap 1"], 2),
            (["lay g", "", "names", "end"], 2), (["lay g", "end x", "end"], 1), (["lay g", " end", "end"], 1), (["lay", "end"], 0),
            (["lay g h", "end"], 0), (["lay own", "end"], 0), (["lay g", "end ", "end"], 1), (["bad", "lay g"], 0), (["lay g", "end", "bad"], 2),
            (["lay g", "lay", "end"], 1), (["lay G", "lay h", "end"], 0),
        ]
        for parts, due in rows:
            self.refused(BadRow, "row", due, answers, "\n".join(parts))
            self.assertEqual(bad_row_due("\n".join(parts)), due)

    def test_grammar_rows(self):
        good = [
            "cap 1", "cap 999999", "sort s /", "sort s a b c d e / f g h i", "sort s s / s", "make m s", "make m s a b c d e", "rule m 0.u copy",
            "rule m 2.u pick 1 2 3 4 5 6", "rule m k copy own", "rule m 1.cap least 0.a k 999999", "rule rule rule rest rule", "sort sort / sort",
        ]
        bad = [
            "cap", "cap 0", "cap 01", "cap 1000000", "cap -1", "cap 1 2", "cap x", "sort", "sort s", "sort /", "sort / u", "sort s / /",
            "sort own /", "sort s own /", "sort s / own", "sort S /", "sort abcdefg /", "make", "make m", "make own s", "make m own",
            "make m s own", "make m s 1", "rule", "rule m", "rule m 0.u", "rule m 3.u copy", "rule m 0.own copy", "rule m 0. copy",
            "rule m .u copy", "rule m own copy", "rule m 1 copy", "rule m 00.u copy", "rule m 0.u copies", "rule m 0.u Copy", "rule m 0.u copy 01",
            "rule m 0.u copy 1000000", "rule m 0.u copy 3.u", "rule m 0.u copy -", "rule own 0.u copy", "rule m 0.u copy  1", " cap 1", "cap 1 ",
            "cap  1", "names", "undo", "END", "rule m 0.u copy 0.u.v", "rule m 0,u copy", "sorts s /",
        ]
        for row in good:
            self.assertTrue(grammar_row_so(row), row)
            self.assertFalse(self.due(f"lay g\n{row}\nend"))
            same(self, len(answers(f"lay g\n{row}\nend\nnames")), 2)
        for row in bad:
            self.assertFalse(grammar_row_so(row), row)
            self.refused(BadRow, "row", 2, answers, f"names\nlay g\n{row}\nend\nbad")

    def test_words_of_orders(self):
        samples = {"n": "abc", "p": "1.2", "t": "m:3(n,n:7)", "#": "17", "-": "-"}
        wrongs = ["", "own", "abcdefg", "A", "1a", "a1", "-", "--", "/", "1..2", "1.", ".1", "0", "00", "01", "3", "1.3", "0.1", "..", "1.1", ".",
                  "1000000", "999999", "-1", "+1", "1,2", "m(", "m()", "m(a,b,c)", "m:0", "m:01", "m(a", "own(a)", "m(own)", "end", "lay", "a b", "a  b",
                  ".".join("1" * 30), ".".join("2" * 31), "n(" * 30 + "z" + ")" * 30, "n(" * 31 + "z" + ")" * 31]
        for word, shape in SHAPES.items():
            words = [word, *[samples[kind] for kind in shape]]
            self.whole_row(words)
            for at in range(len(words)):
                self.whole_row(words[:at] + words[at + 1:])
                self.whole_row(words[:at + 1] + words[at:])
                for wrong in wrongs:
                    self.whole_row(words[:at] + [wrong] + words[at + 1:])
                    self.whole_row(words[:at] + [wrong] + words[at:])
            self.whole_row([*words, ""])
            self.whole_row(["", *words])
            self.whole_row([*words, "x"])
            # Pairs stand behind plant alone.
            self.whole_row([*words, "d", "1"])
            self.whole_row([*words, "d", "1", "e", "2"])
        for more in (["d"], ["d", "1"], ["d", "1", "e"], ["d", "1", "e", "2"], ["d", "-"], ["1", "d"], ["own", "1"], ["d", "01"], ["d", "1000000"],
                     ["d", "1", "d", "1"], ["d", "1", "e", "2", "f", "3"], ["d", ""], ["", "1"]):
            self.whole_row(["plant", "t", "g", "m", *more])

    def whole_row(self, words):
        row = " ".join(words)
        ahead = f"names\n{laid('g', CHAIN)}\n\n"
        text = ahead + row + ("\nend" if words[:1] == ["lay"] else "") + "\ntotal"
        self.due(text)

    def test_a_script_with_a_row_otherwise(self):
        rng = random.Random(301)
        rows = "\n".join([
            "names", laid("g", CHAIN), "", "plant t g n(z:1) d 9", laid("h", "\n" + SMALL + "\n\n"), "ask t 1 u", "mark t . 4", "give t d -", "end",
        ]).split("\n")[:-1]
        self.assertIsNone(bad_row_due("\n".join(rows)))
        refused = 0
        for at in range(len(rows)):
            for other in ["", "x", "end", "lay g", "lay h", "names", "cap 1", "sort s /", rows[at] + " ", " " + rows[at], rows[at] + " x",
                          rows[at].replace(" ", "  "), rows[at].upper(), rows[at][:-1], rows[at] + "a"]:
                refused += self.due("\n".join(rows[:at] + [other] + rows[at + 1:]))
                refused += self.due("\n".join(rows[:at] + [other] + rows[at:]))
            refused += self.due("\n".join(rows[:at] + rows[at + 1:]))
            refused += self.due("\n".join(rows[:at + 1]))
        self.assertGreater(refused, 200)
        for step in range(300):
            text = list("\n".join(rows))
            for sign in range(rng.choice([1, 1, 2])):
                text[rng.randrange(len(text))] = rng.choice(["", " ", "\n", "a", "0", "1", "-", ".", "(", "end", "\nend\n"])
            self.due("".join(text))

    def test_ahead_of_all_answers(self):
        self.refused(BadRow, "row", 3, answers, "uproot x\nnames\n\nbad")


def order_by_chance(rng, model):
    """(row or rows, step or None) of an order that is so written."""
    while True:
        if rng.random() < 0.4:
            names = list(model.trees()) * 4 + list(model.grammars()) + ["a", "b", "x"]
            word = rng.choice(["ask", "tree", "road", "worths", "rest", "least", "ring", "orders", "graphs", "total", "names"])
            name = rng.choice(names)
            path = rng.choice([".", "1", "1.1", "2", "1.2"])
            worth = rng.choice(["u", "d", "val", "env", "out", "size", "extra", "x"])
            sort = rng.choice(["s", "t", "exp", "top", "x"])
            words = {"n": name, "p": path}
            if word in ("least", "graphs"):
                return f"{word} {rng.choice(list(model.grammars()) * 4 + names)} {sort}", None
            if word in ("ring", "orders"):
                return f"{word} {rng.choice(list(model.grammars()) * 4 + names)}", None
            if word in ("ask", "road"):
                return f"{word} {words['n']} {words['p']} {worth}", None
            return (f"{word} {name}" if SHAPES[word] else word), None
        step = deed_by_chance(rng, model)
        row = row_of(step)
        if bad_row_due(row) is None:
            return row, step


def row_of(step):
    word, *rest = step
    if word == "lay":
        return laid(*rest)
    if word == "plant":
        given = rest[3] if type(rest[3]) is list else []
        return " ".join(["plant", *rest[:3], *[f"{down} {number}" for down, number in given]])
    if word in ("put", "mark"):
        path = rest[1] if type(rest[1]) is tuple and all(type(place) is int for place in rest[1]) else ("bad",)
        return f"{word} {rest[0]} {path_text(path)} {rest[2]}"
    if word == "give":
        return f"give {rest[0]} {rest[1]} {shown(rest[2])}"
    return " ".join(step)


class ByChance(Asking):
    def test_scripts(self):
        rng = random.Random(302)
        seen = {}
        for step in range(60):
            limit = rng.choice([400, 400, 5])
            model = ShopDue(limit)
            rows = []
            for name, text in rng.sample([("a", LET_TEXT), ("b", CHAIN), ("c", "cap 4\n" + CHAIN)], 2):
                rows.append(laid(name, text))
                model.lay(name, text)
            asks = 0
            while len(rows) < 40:
                row, deed = order_by_chance(rng, model)
                if deed is None and asks == 20:
                    continue
                asks += deed is None
                rows.append(row + rng.choice(["", "", "\n"]))
                self.follow(model, deed)
            text = "\n".join(rows)
            told = answers(text, limit=limit)
            same(self, told, answers_due(text, limit))
            same(self, len(told), len(rows))
            for row, answer in zip(rows, told):
                kind = (row.split(" ")[0].strip(), answer.startswith("refused"))
                seen[kind] = seen.get(kind, 0) + 1
            told.clear()
            same(self, answers(text, limit=limit), answers_due(text, limit))
        for word in SHAPES:
            self.assertGreater(seen.get((word, False), 0), 3, word)

    def follow(self, model, deed):
        """So that the next orders fit what stands."""
        if deed is not None:
            word, *rest = deed
            if word == "plant" and type(rest[3]) is not list:
                rest[3] = []
            try:
                getattr(model, word)(*rest)
            except REFUSALS:
                pass


if __name__ == "__main__":
    unittest.main()
