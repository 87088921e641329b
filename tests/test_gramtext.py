import bisect
import random
import re
import unittest

from helper import (
    LET, LET_MAKINGS, LET_RULES, LET_SORTS, LET_TEXT, PARTS, first_bad, grammars_by_chance, same,
)
from threereckons.errors import BadRow
from threereckons.grammar import Grammar
from threereckons.gramtext import grammar_in, row_in

NAME = "(?!own(?![a-z]))[a-z]{1,6}"
NUMBER = "(?:0|[1-9][0-9]{0,5})"
TERM = f"(?:[0-2]\\.{NAME}|{NAME})"
FORMS = [
    ("cap", f"cap {NUMBER}"),
    ("sort", f"sort {NAME}(?: {NAME})* /(?: {NAME})*"),
    ("make", f"make {NAME} {NAME}(?: {NAME})*"),
    ("rule", f"rule {NAME} {TERM} {NAME}(?: (?:{TERM}|own|{NUMBER}))*"),
]


def term_due(word):
    if word == "own":
        return ("own",)
    if word[0].isdigit() and "." in word:
        return ("at", int(word[0]), word[2:])
    return ("number", int(word)) if word[0].isdigit() else ("kept", word)


def rows_due(text):
    """(sorts, makings, rules, cap) of a text of whole rows; None where it isn't so written."""
    found = {"cap": [], "sort": [], "make": [], "rule": []}
    latest = 0
    for row in [row for row in text.split("\n") if row]:
        fitting = [at for at, (kind, form) in enumerate(FORMS) if re.fullmatch(form, row)]
        if len(fitting) != 1 or fitting[0] < latest:
            return None
        latest = fitting[0]
        found[FORMS[latest][0]].append(row)
    if len(found["cap"]) > 1 or found["cap"] == ["cap 0"]:
        return None
    cap = int(found["cap"][0][4:]) if found["cap"] else 0
    sorts = []
    for row in found["sort"]:
        ahead, behind = row.split("/")
        sort, *downs = ahead.split()[1:]
        sorts.append((sort, tuple(downs), tuple(behind.split())))
    makings = [(words[1], words[2], tuple(words[3:])) for words in map(str.split, found["make"])]
    rules = [(words[1], term_due(words[2]), words[3], tuple(map(term_due, words[4:])))
             for words in map(str.split, found["rule"])]
    return None if first_bad(sorts, makings, rules, cap) else (sorts, makings, rules, cap)


def bad_row(text):
    """The first row by which it's no text of a grammar any more; None where it's one."""
    rows = text.split("\n")
    if rows_due(text) is not None:
        return None
    # What follows a row that can't stand mends nothing, so the first one is sought by halves.
    return bisect.bisect_left(range(len(rows)), True, key=lambda at: rows_due("\n".join(rows[:at + 1])) is None)


def text_due(rows):
    sorts, makings, rules, cap = rows

    def word(term):
        return {"at": lambda: f"{term[1]}.{term[2]}", "own": lambda: "own"}.get(term[0], lambda: f"{term[1]}")()

    lines = [["cap", str(cap)]] if cap else []
    lines += [["sort", sort, *downs, "/", *ups] for sort, downs, ups in sorts]
    lines += [["make", making, sort, *parts] for making, sort, parts in makings]
    lines += [["rule", making, word(target), op, *map(word, operands)] for making, target, op, operands in rules]
    return "\n".join(" ".join(words) for words in lines)


def made(rows):
    sorts, makings, rules, cap = rows
    return Grammar(sorts, makings, rules, cap=cap)


class Texts(unittest.TestCase):
    def read(self, text, due):
        grammar = grammar_in(text)
        self.assertIs(type(grammar), Grammar)
        same(self, (grammar.sorts(), grammar.makings(), grammar.rules(), grammar.cap()), due)
        return grammar

    def test_written_out(self):
        grammar = Grammar(LET_SORTS, LET_MAKINGS, LET_RULES)
        self.assertEqual(str(grammar), LET_TEXT)
        self.read(LET_TEXT, (LET_SORTS, LET_MAKINGS, LET_RULES, 0))
        capped = Grammar([("s", (), ())], [("s", "s", ("s", "s"))], [], cap=7)
        self.assertEqual(str(capped), "cap 7\nsort s /\nmake s s s s")
        self.assertEqual(str(Grammar([("s", ("d", "e"), ())], [], [])), "sort s d e /")
        self.assertEqual(str(Grammar([], [], [])), "")
        self.assertEqual(str(Grammar([], [], [], cap=9)), "cap 9")
        self.read("", ([], [], [], 0))
        self.read("\n\n", ([], [], [], 0))
        self.read("cap 1", ([], [], [], 1))

    def test_words_that_are_names_too(self):
        text = "sort sort cap / rule\nmake make sort\nrule make 0.rule copy at\nrule make at copy kept"
        due = ([("sort", ("cap",), ("rule",))], [("make", "sort", ())], [
            ("make", ("at", 0, "rule"), "copy", (("kept", "at"),)), ("make", ("kept", "at"), "copy", (("kept", "kept"),)),
        ], 0)
        self.read(text, due)
        self.assertEqual(str(made(due)), text)

    def test_by_chance_and_back(self):
        for rows in grammars_by_chance(31, 150):
            grammar = made(rows)
            text = str(grammar)
            self.assertEqual(text, text_due(rows))
            self.assertEqual(str(grammar), text)
            again = self.read(text, rows)
            self.assertTrue(again == grammar)
            self.assertEqual(str(again), text)

    def test_each_number_of_sorts_and_makings(self):
        for sorts in range(5):
            for makings in range(9):
                for rows in grammars_by_chance(500 + sorts * 10 + makings, 2, many_sorts=sorts, many_makings=makings):
                    self.read(str(made(rows)), rows)

    def test_empty_rows_are_passed_over(self):
        rng = random.Random(32)
        for rows in grammars_by_chance(33, 40):
            lines = text_due(rows).split("\n")
            for step in range(3):
                lines.insert(rng.randint(0, len(lines)), "")
            self.read("\n".join(lines), rows)
            self.read("\n" + text_due(rows) + "\n", rows)

    def test_arguments(self):
        self.assertTrue(grammar_in(text="cap 3") == Grammar([], [], [], cap=3))


class BadRows(unittest.TestCase):
    def due(self, text):
        row = bad_row(text)
        if row is None:
            self.assertEqual(str(grammar_in(text)), "\n".join(each for each in text.split("\n") if each))
            return False
        with self.assertRaises(BadRow, msg=text) as caught:
            grammar_in(text)
        self.assertIs(type(caught.exception), BadRow)
        self.assertEqual((text, caught.exception.row), (text, row))
        return True

    def written(self, text, row):
        self.assertEqual(bad_row(text), row, text)
        self.due(text)

    def test_written_out(self):
        rows = [
            (" ", 0), ("\n ", 1), ("x", 0), ("cap", 0), ("cap 0", 0), ("cap 00", 0), ("cap 01", 0), ("cap 10", 0),
            ("cap 1 2", 0), ("cap  1", 0), ("cap 1 ", 0), (" cap 1", 0), ("Cap 1", 0), ("cap 1\ncap 1", 1),
            ("cap 9\n\n\ncap 2", 3), ("cap -1", 0), ("cap a", 0), ("cap 9999999", 0), ("cap " + "9" * 90, 0),
            ("sort s", 0), ("sort", 0), ("sort /", 0), ("sort / s", 0), ("sort s / /", 0), ("sort s/", 0),
            ("sort s / u ", 0), ("sort s  / u", 0), ("sort s d d /", 0), ("sort s d / d", 0), ("sort s a b c /", 0),
            ("sort own /", 0), ("sort s own /", 0), ("sort abcdefg /", 0), ("sort s / abcdefg", 0),
            ("sort s /\nsort s /", 1), ("sort a /\nsort b /\nsort c /\nsort d /\nsort e /", 4),
            ("sort s /\ncap 1", 1), ("make m s", 0), ("make m s\nsort s /", 0), ("sort s /\nmake m s\nsort t /", 2),
            ("sort s /\nmake m", 1), ("sort s /\nmake", 1), ("sort s /\nmake m s x", 1), ("sort s /\nmake m x", 1),
            ("sort s /\nmake m s s s s", 1), ("sort s /\nmake m s\nmake m s", 2), ("sort s /\nmake own s", 1),
            ("sort s / u\nmake m s\nrule m 0.u copy own\nmake n s", 3), ("sort s / u\n\nrule m 0.u copy own", 2),
            ("sort s / u\nmake m s\nrule m 0.u copy own\nrule m 0.u copy own", 3),
            ("sort s / u\nmake m s\nrule m own copy own", 2), ("sort s / u\nmake m s\nrule m 0.own copy own", 2),
            ("sort s / u\nmake m s\nrule m 00.u copy own", 2), ("sort s / u\nmake m s\nrule m u copy own", 2),
            ("sort s / u\nmake m s\nrule m 0. copy own", 2), ("sort s / u\nmake m s\nrule m .u copy own", 2),
            ("sort s / u\nmake m s\nrule m 0.u.u copy own", 2), ("sort s / u\nmake m s\nrule m 1 copy own", 2),
            ("sort s / u\nmake m s\nrule m 0.u copy", 2), ("sort s / u\nmake m s\nrule m 0.u", 2),
            ("sort s / u\nmake m s\nrule m", 2), ("sort s / u\nmake m s\nrule", 2),
            ("sort s / u\nmake m s\nrule m 0.u own", 2), ("sort s / u\nmake m s\nrule m 0.u copy 01", 2),
            ("sort s / u\nmake m s\nrule m 0.u copy 999999", None), ("sort s / u\nmake m s\nrule m 0.u copy 1000000", 2),
            ("sort s / u\nmake m s\nrule m 0.u copy 0", None), ("sort s / u\nmake m s\nrule m 0.u copy 00", 2),
            ("sort s / u\nmake m s\nrule m 0.u copy own ", 2), ("sort s / u\nmake m s\nrule m  0.u copy own", 2),
            ("sort s / u\nmake m s\nrule m 0.u plus own", 2), ("sort s / u\nmake m s\nrule m 0.u copy own own", 2),
            ("cap 1\nsort s / u\nmake m s\nrule m 0.u times own own", 3), ("sort s / u\nmake m s\nrule m 0.u minus 1 1", 2),
            ("sort s / u\nmake m s\nrule m k copy j\nrule m i copy 1", 3), ("sort s / u\nmake m s\nrule n k copy 1", 2),
            ("sort s d / u\nmake m s s\nrule m 0.d copy 1", 2), ("sort s d / u\nmake m s s\nrule m 1.u copy 1", 2),
            ("sort s d / u\nmake m s s\nrule m 2.d copy 1", 2), ("sort s d / u\nmake m s s\nrule m 3.d copy 1", 2),
            ("sort s d / u\nmake m s s\nrule m 1.d copy 0.u", 2), ("sort s d / u\nmake m s s\nrule m 1.d copy 1.u", None),
            # A row that can't stand ahead of one that isn't so written, and behind it.
            ("sort s /\nmake m x\nwhat", 1), ("sort s /\nwhat\nmake m x", 1), ("cap 10\nwhat", 0), ("what\ncap 10", 0),
            ("cap 12\nsort s /\nmake m x", 0),
        ]
        for text, row in rows:
            self.written(text, row)

    def spoilt_rows(self, rng, row):
        words = row.split(" ")
        found = [" " + row, row + " ", row.upper(), row + " own", row + " /", row + "\t", "\t" + row, row[1:], row[:-1]]
        for at in range(len(words)):
            ahead, word, behind = words[:at], words[at], words[at + 1:]
            found += [" ".join(ahead + behind), " ".join(ahead + [word, word] + behind)]
            found += [" ".join(ahead + [other] + behind) for other in (
                "", "own", "0", "1", "00", "0" + word, word + "a", word + "0", "abcdefg", "1000000", "/", "0.u", "2.a",
                rng.choice("abcdefgh"), rng.choice(list(PARTS)), word.replace(".", " "), word + ".", "-1", "x" + word,
            )]
            if behind:
                found.append(" ".join(ahead + [behind[0], word] + behind[1:]))
            other = rng.randrange(len(words))
            turned = list(words)
            turned[at], turned[other] = turned[other], turned[at]
            found.append(" ".join(turned))
        return found

    def test_each_row_spoilt(self):
        rng = random.Random(41)
        texts = [LET_TEXT] + [text_due(rows) for rows in grammars_by_chance(42, 6)]
        refused = 0
        for text in texts:
            lines = text.split("\n")
            for at, row in enumerate(lines):
                for other in self.spoilt_rows(rng, row):
                    blank = [""] * rng.choice([0, 0, 1, 2])
                    refused += self.due("\n".join(lines[:at] + blank + [other] + lines[at + 1:]))
        self.assertGreater(refused, 3000)

    def test_single_rows_are_so_written_or_not(self):
        """Whatever they name: what can't stand may be so written."""
        rng = random.Random(46)
        lines = LET_TEXT.split("\n") + ["cap 9", "cap 999999", "sort s /", "make m s a b c d", "rule m k copy", "rule m 2.x pick 1 2 3 4"]
        for line in lines:
            for row in [line] + self.spoilt_rows(rng, line):
                words = row.split(" ")
                fits = any(re.fullmatch(form, row) for kind, form in FORMS)
                fits = fits and row != "cap 0" and (words[0] != "rule" or words[3] in PARTS)
                self.assertEqual((row, row_in(row)[1] is not None), (row, fits))

    def test_rows_left_out_twice_and_exchanged(self):
        rng = random.Random(43)
        for rows in grammars_by_chance(44, 25):
            lines = text_due(rows).split("\n")
            for at in range(len(lines)):
                self.due("\n".join(lines[:at] + lines[at + 1:]))
                self.due("\n".join(lines[:at] + [lines[at], lines[at]] + lines[at + 1:]))
                turned = list(lines)
                other = rng.randrange(len(lines))
                turned[at], turned[other] = turned[other], turned[at]
                self.due("\n".join(turned))
            rng.shuffle(lines)
            self.due("\n".join(lines))

    def test_a_cap_put_ahead(self):
        for rows in grammars_by_chance(45, 30, cap=0):
            text = text_due(rows)
            kept = [row for row in rows[2] if row[2] in LET]
            self.assertEqual(self.due("cap 4\n" + text if text else "cap 4"), kept != rows[2])

    def test_a_refusal_changes_nothing(self):
        first = str(grammar_in(LET_TEXT))
        for step in range(3):
            with self.assertRaises(BadRow):
                grammar_in(LET_TEXT + "\nrule")
            self.assertEqual(str(grammar_in(LET_TEXT)), first)


if __name__ == "__main__":
    unittest.main()
