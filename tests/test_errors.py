import inspect
import unittest

from threereckons import errors

KINDS = {
    "BadGrammar": (ValueError, ("part", "row")),
    "BadRow": (ValueError, ("row",)),
    "BadText": (ValueError, ("at",)),
    "NoTree": (ValueError, ("thing",)),
    "NoGiven": (ValueError, ("thing",)),
    "NotLet": (ValueError, ("op", "under")),
    "NoCap": (ValueError, ("under",)),
    "NoName": (KeyError, ("name",)),
    "NoOp": (KeyError, ("op",)),
    "NoRow": (KeyError, ("making",)),
    "NoSpot": (LookupError, ("spot",)),
    "NoNode": (IndexError, ("path",)),
    "Ring": (RuntimeError, ("ring",)),
    "Ringed": (RuntimeError, ("least", "ring")),
    "Clash": (RuntimeError, ("clash",)),
    "Taken": (RuntimeError, ("name",)),
    "Lacks": (ArithmeticError, ("spots",)),
    "TooMuch": (OverflowError, ("many",)),
}

def nested(depth, make):
    thing = make([])
    for step in range(depth - 1):
        thing = make([thing])
    return thing


THINGS = [
    0, 7, -3, 10 ** 6, 10 ** 5000, True, False, None,
    "", "own", "a text with signs ~!{}\n", "copy",
    (), (1, 2), ((), "a"), (True, None, "x", -1),
    [], [1, "a", None], [((), "up"), ((1, 2), "down")],
    ("leaf", 0, (("leaf", 3, ()),)), [[[]], ([],)],
    nested(80, list), nested(80, tuple), nested(100, list),
]


def classes():
    return [(name, getattr(errors, name), above, fields) for name, (above, fields) in KINDS.items()]


class Classes(unittest.TestCase):
    def test_all_eighteen_and_no_more(self):
        defined = [
            name for name, kind in vars(errors).items()
            if inspect.isclass(kind) and issubclass(kind, BaseException)
        ]
        self.assertEqual(sorted(defined), sorted(KINDS))
        self.assertEqual(len(defined), 18)

    def test_straight_under_pythons_own(self):
        for name, kind, above, fields in classes():
            with self.subTest(name):
                self.assertEqual(kind.__bases__, (above,))
                self.assertEqual(kind.__name__, name)

    def test_under_no_other_one(self):
        for name, kind, above, fields in classes():
            for other_name, other, other_above, other_fields in classes():
                if name != other_name:
                    self.assertFalse(issubclass(kind, other), (name, other_name))


class Fields(unittest.TestCase):
    def same(self, told, due):
        # True == 1 and False == 0, so the kinds are compared too.
        self.assertIs(type(told), type(due))
        self.assertEqual(told, due)
        if isinstance(due, (list, tuple)):
            for one, other in zip(told, due):
                self.same(one, other)

    def test_made_by_place(self):
        for name, kind, above, fields in classes():
            for thing in THINGS:
                made = kind(*[thing for field in fields])
                for field in fields:
                    self.same(getattr(made, field), thing)

    def test_made_by_name(self):
        for name, kind, above, fields in classes():
            for thing in THINGS:
                made = kind(**{field: thing for field in fields})
                for field in fields:
                    self.same(getattr(made, field), thing)

    def test_each_field_has_its_own(self):
        for name, kind, above, fields in classes():
            things = [f"thing {at}" for at in range(len(fields))]
            by_place = kind(*things)
            by_name = kind(**dict(reversed(list(zip(fields, things)))))
            mixed = kind(things[0], **dict(zip(fields[1:], things[1:])))
            for made in (by_place, by_name, mixed):
                self.assertEqual([getattr(made, field) for field in fields], things)

    def test_neither_more_nor_less_is_taken(self):
        for name, kind, above, fields in classes():
            things = [0 for field in fields]
            with self.assertRaises(TypeError):
                kind(*things, 0)
            with self.assertRaises(TypeError):
                kind(*things[1:])
            with self.assertRaises(TypeError):
                kind(*things[1:], other=0)

    def test_raised_and_caught(self):
        for name, kind, above, fields in classes():
            with self.assertRaises(above) as caught:
                raise kind(*[[1] for field in fields])
            self.assertIs(type(caught.exception), kind)
            self.assertIsInstance(str(caught.exception), str)

    def test_a_later_change_is_not_seen(self):
        for name, kind, above, fields in classes():
            for field in fields:
                thing = [1, ([2], "a")]
                made = kind(**{each: thing if each == field else 0 for each in fields})
                thing.append(3)
                thing[1][0].append(4)
                self.assertEqual(getattr(made, field), [1, ([2], "a")])

    def test_what_is_handed_in_is_not_changed(self):
        for name, kind, above, fields in classes():
            for field in fields:
                thing = [1, ([2], "a")]
                made = kind(**{each: thing if each == field else 0 for each in fields})
                getattr(made, field)[1][0].append(5)
                getattr(made, field).append(6)
                self.assertEqual(thing, [1, ([2], "a")])


if __name__ == "__main__":
    unittest.main()
