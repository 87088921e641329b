import unittest

from threereckons.errors import NoOp, NotLet
from threereckons.ops import is_op, op_let, parts_of, reckoned

PARTS = {
    "copy": 1, "plus": 2, "less": 2, "times": 2, "over": 2, "rest": 2,
    "least": 2, "most": 2, "same": 2, "under": 2, "pick": 3,
}
LET = ["copy", "plus", "least", "most"]
NOT_LET = ["less", "times", "over", "rest", "same", "under", "pick"]
CAPS = range(1, 10)
TOP = 999999


def changed_texts():
    """Each op with a sign put in, left out or exchanged, and the like."""
    texts = []
    for op in PARTS:
        texts += [op[:at] + op[at + 1:] for at in range(len(op))]
        for sign in "ao s.\n":
            texts += [op[:at] + sign + op[at:] for at in range(len(op) + 1)]
            texts += [op[:at] + sign + op[at + 1:] for at in range(len(op))]
        texts += [op.upper(), op.capitalize(), op[:-1] + op[-1].upper(), op[::-1]]
        texts += [" " + op, op + " ", " " + op + " ", op + "\n", "\t" + op]
        for other in PARTS:
            texts += [op + other, op + " " + other, op + "," + other]
    return sorted(text for text in set(texts) if text not in PARTS)


NO_OP_TEXTS = changed_texts() + [
    "", " ", "a", "own", "at", "kept", "number", "minus", "divide", "max", "min",
    "0", "1", "None", "True", "[]", "__len__", "keys", "~", "copy" * 100,
]


def nested(depth, inner, make):
    thing = inner
    for step in range(depth):
        thing = make([thing])
    return thing


NO_TEXTS = [
    0, 1, 2, 3, 11, -1, -999, 10 ** 6, 10 ** 30, True, False, None,
    [], (), [[]], ((),), ["copy"], ("copy",), ["plus", "less"], ("plus", 2),
    [["pick"]], (("pick",),), ["c", "o", "p", "y"], ("c", "o", "p", "y"),
    [None, True, -1, "copy", ("copy", ["copy"])], list(PARTS), tuple(PARTS),
    nested(80, "copy", list), nested(80, "copy", tuple),
    nested(79, ["copy"], tuple), nested(79, (), list), nested(90, "copy", list),
]


class IsOp(unittest.TestCase):
    def test_the_eleven(self):
        self.assertEqual(len(PARTS), 11)
        for op in PARTS:
            self.assertIs(is_op(op), True)
            self.assertIs(is_op("".join(list(op))), True)
            self.assertIs(is_op(thing=op), True)

    def test_other_texts(self):
        for text in NO_OP_TEXTS:
            self.assertIs(is_op(text), False, text)

    def test_other_things(self):
        for thing in NO_TEXTS:
            self.assertIs(is_op(thing), False)

    def test_what_is_handed_in_stays(self):
        thing = ["copy", ["plus", (1, None)]]
        is_op(thing)
        self.assertEqual(thing, ["copy", ["plus", (1, None)]])


class PartsOf(unittest.TestCase):
    def test_the_eleven(self):
        for op, many in PARTS.items():
            self.assertIs(type(parts_of(op)), int)
            self.assertEqual(parts_of(op), many)
            self.assertEqual(parts_of(op=op), many)

    def test_other_texts_are_refused(self):
        for text in NO_OP_TEXTS:
            with self.assertRaises(NoOp) as caught:
                parts_of(text)
            self.assertIs(type(caught.exception), NoOp)
            self.assertEqual(caught.exception.op, text)


class OpLet(unittest.TestCase):
    def test_no_cap(self):
        for op in PARTS:
            self.assertIs(op_let(op), True)
            self.assertIs(op_let(op, cap=0), True)
            self.assertIs(op_let(cap=0, op=op), True)

    def test_each_cap(self):
        self.assertEqual(sorted(LET + NOT_LET), sorted(PARTS))
        for cap in CAPS:
            for op in LET:
                self.assertIs(op_let(op, cap=cap), True)
            for op in NOT_LET:
                self.assertIs(op_let(op, cap=cap), False)

    def test_cap_by_its_name_alone(self):
        with self.assertRaises(TypeError):
            op_let("copy", 0)


class WithoutCap(unittest.TestCase):
    def told(self, op, rows):
        for numbers, due in rows:
            with self.subTest(op=op, numbers=numbers):
                for told in (
                    reckoned(op, list(numbers)),
                    reckoned(op, list(numbers), cap=0),
                    reckoned(cap=0, numbers=list(numbers), op=op),
                ):
                    self.assertIs(type(told), type(due))
                    self.assertEqual(told, due)

    def test_copy(self):
        self.told("copy", [((0,), 0), ((1,), 1), ((10,), 10), ((47,), 47), ((TOP,), TOP)])

    def test_plus(self):
        self.told("plus", [
            ((2, 3), 5), ((0, 0), 0), ((0, 7), 7), ((7, 0), 7), ((999998, 1), TOP),
            ((TOP, 0), TOP), ((TOP, 1), 0), ((1, TOP), 0), ((TOP, TOP), 999998),
            ((500000, 500000), 0), ((600000, 700000), 300000),
        ])

    def test_less(self):
        self.told("less", [
            ((3, 2), 1), ((2, 3), 999999), ((5, 5), 0), ((0, 0), 0), ((0, 1), TOP), ((1, 0), 1),
            ((TOP, 0), TOP), ((0, TOP), 1), ((TOP, TOP), 0), ((1, TOP), 2), ((10, 310), 999700),
        ])

    def test_times(self):
        self.told("times", [
            ((2, 3), 6), ((0, 9), 0), ((9, 0), 0), ((1, TOP), TOP), ((TOP, 1), TOP), ((0, TOP), 0),
            ((TOP, TOP), 1), ((2, TOP), 999998), ((1000, 1000), 0), ((999, 1001), TOP),
            ((1234, 5678), 6652),
        ])

    def test_over(self):
        self.told("over", [
            ((7, 2), 3), ((6, 2), 3), ((5, 6), 0), ((0, 5), 0), ((5, 1), 5), ((TOP, 1), TOP),
            ((TOP, TOP), 1), ((1, TOP), 0), ((TOP, 2), 499999), ((0, 1), 0),
            ((7, 0), None), ((0, 0), None), ((TOP, 0), None), ((1, 0), None),
        ])

    def test_rest(self):
        self.told("rest", [
            ((7, 2), 1), ((6, 2), 0), ((5, 6), 5), ((0, 5), 0), ((5, 1), 0), ((TOP, 1), 0),
            ((TOP, TOP), 0), ((1, TOP), 1), ((TOP, 2), 1), ((999998, TOP), 999998),
            ((7, 0), None), ((0, 0), None), ((TOP, 0), None), ((1, 0), None),
        ])

    def test_over_and_rest_make_the_first(self):
        for first in (0, 1, 2, 17, 100, 123456, TOP):
            for second in (1, 2, 3, 10, 17, 123456, TOP):
                often = reckoned("over", [first, second])
                left = reckoned("rest", [first, second])
                self.assertEqual(often * second + left, first)
                self.assertLess(left, second)

    def test_least(self):
        self.told("least", [
            ((2, 3), 2), ((3, 2), 2), ((4, 4), 4), ((0, TOP), 0), ((TOP, 0), 0), ((TOP, TOP), TOP),
            ((0, 0), 0), ((1, 0), 0), ((9, 10), 9),
        ])

    def test_most(self):
        self.told("most", [
            ((2, 3), 3), ((3, 2), 3), ((4, 4), 4), ((0, TOP), TOP), ((TOP, 0), TOP), ((TOP, TOP), TOP),
            ((0, 0), 0), ((1, 0), 1), ((9, 10), 10),
        ])

    def test_same(self):
        self.told("same", [
            ((2, 3), 0), ((3, 2), 0), ((4, 4), 1), ((0, 0), 1), ((0, 1), 0), ((1, 1), 1),
            ((TOP, TOP), 1), ((TOP, 999998), 0), ((0, TOP), 0),
        ])

    def test_under(self):
        self.told("under", [
            ((2, 3), 1), ((3, 2), 0), ((4, 4), 0), ((0, 0), 0), ((0, 1), 1), ((1, 0), 0),
            ((TOP, TOP), 0), ((999998, TOP), 1), ((TOP, 0), 0), ((9, 10), 1),
        ])

    def test_pick(self):
        self.told("pick", [
            ((1, 5, 6), 5), ((0, 5, 6), 6), ((2, 5, 6), 5), ((TOP, 0, 6), 0), ((0, 5, 0), 0),
            ((TOP, TOP, 0), TOP), ((0, 0, TOP), TOP), ((1, 0, 0), 0), ((0, 7, 7), 7),
        ])

    def test_worths_or_none(self):
        edges = (0, 1, 2, 9, 10, 1000, 500000, 999998, TOP)
        for op, many in PARTS.items():
            for first in edges:
                for second in edges:
                    told = reckoned(op, [first, second, first][:many])
                    if op in ("over", "rest") and second == 0:
                        self.assertIs(told, None)
                    else:
                        self.assertIs(type(told), int)
                        self.assertTrue(0 <= told <= TOP)


class UnderCap(unittest.TestCase):
    def numbers(self, cap):
        return sorted({0, 1, cap - 1, cap, cap + 1, 2 * cap, 10, 100, 500000, TOP})

    def due(self, op, numbers, cap):
        low = [min(number, cap) for number in numbers]
        whole = {"copy": low[0], "plus": sum(low), "least": min(low), "most": max(low)}
        return min(whole[op], cap)

    def test_let(self):
        for cap in CAPS:
            for op in LET:
                for first in self.numbers(cap):
                    for second in self.numbers(cap):
                        numbers = [first, second][:PARTS[op]]
                        told = reckoned(op, numbers, cap=cap)
                        self.assertIs(type(told), int)
                        self.assertEqual(told, self.due(op, numbers, cap), (op, numbers, cap))
                        self.assertLessEqual(told, cap)

    def test_written_out(self):
        rows = [
            ("copy", [3], 4, 3), ("copy", [4], 4, 4), ("copy", [5], 4, 4), ("copy", [TOP], 9, 9),
            ("copy", [0], 1, 0), ("copy", [2], 1, 1),
            ("plus", [1, 2], 4, 3), ("plus", [2, 2], 4, 4), ("plus", [3, 2], 4, 4), ("plus", [9, 9], 9, 9),
            # The numbers count as the cap ahead of the sum, so nothing turns over.
            ("plus", [TOP, 1], 9, 9), ("plus", [TOP, 1], 1, 1), ("plus", [500000, 500000], 5, 5),
            ("plus", [0, 0], 5, 0), ("plus", [TOP, 0], 5, 5),
            ("least", [2, 3], 9, 2), ("least", [8, 9], 5, 5), ("least", [0, TOP], 5, 0), ("least", [TOP, TOP], 3, 3),
            ("most", [2, 3], 9, 3), ("most", [2, 8], 5, 5), ("most", [0, 0], 5, 0), ("most", [TOP, 0], 7, 7),
        ]
        for op, numbers, cap, due in rows:
            self.assertEqual(reckoned(op, numbers, cap=cap), due, (op, numbers, cap))
            self.assertEqual(reckoned(cap=cap, op=op, numbers=numbers), due)

    def test_not_let(self):
        for cap in CAPS:
            for op in NOT_LET:
                for number in (0, 1, cap, TOP):
                    with self.assertRaises(NotLet) as caught:
                        reckoned(op, [number] * PARTS[op], cap=cap)
                    self.assertIs(type(caught.exception), NotLet)
                    self.assertEqual(caught.exception.op, op)
                    self.assertEqual(caught.exception.under, cap)

    def test_cap_by_its_name_alone(self):
        with self.assertRaises(TypeError):
            reckoned("copy", [1], 0)


class Asking(unittest.TestCase):
    def test_the_list_stays_as_it_was(self):
        for cap in (0, 1, 4, 9):
            for op, many in PARTS.items():
                numbers = [TOP, 7, 0][:many]
                try:
                    reckoned(op, numbers, cap=cap)
                except NotLet:
                    self.assertIn(op, NOT_LET)
                self.assertEqual(numbers, [TOP, 7, 0][:many])

    def test_the_same_question_is_told_the_same(self):
        def ask_all():
            told = []
            for op, many in PARTS.items():
                numbers = [TOP, 7, 3][:many]
                told.append((is_op(op), parts_of(op), op_let(op), op_let(op, cap=3)))
                told.append(reckoned(op, numbers))
                if op in LET:
                    told.append(reckoned(op, numbers, cap=3))
            return told

        first = ask_all()
        for text in ("", "copyy"):
            with self.assertRaises(NoOp):
                parts_of(text)
        with self.assertRaises(NotLet):
            reckoned("less", [1, 2], cap=2)
        self.assertEqual(ask_all(), first)


if __name__ == "__main__":
    unittest.main()
