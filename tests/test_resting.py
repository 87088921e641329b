import itertools
import random
import unittest

from helper import (
    LETS, THINGS, TOP, Asking, Due, copied, grammars_by_chance, made, needs_due, number_by_chance, rules_due, same, spoilt,
    spots_due, trees_by_chance, walk, worths_of,
)
from threereckons.demand import by_demand
from threereckons.errors import NoCap, NoGiven, NoTree, TooMuch
from threereckons.grammar import Grammar
from threereckons.resting import rest_of, rests

OPS = {"copy": lambda a: a, "plus": lambda a, b: a + b, "least": min, "most": max}


class Rest:
    """Rounds by the words of [16]."""

    def __init__(self, rows, tree, given):
        self.cap = rows[3]
        self.spots = spots_due(rows, tree)
        self.rules = rules_due(rows, tree)
        self.needs = needs_due(rows, tree)
        self.own = {path: node[1] for path, node in walk(tree)}
        self.given = {((), down): min(number, self.cap) for down, number in given}
        self.lacking = set()
        for step in self.spots:
            for spot in self.spots:
                bare = spot not in self.rules and spot not in self.given
                if bare or any(need in self.lacking for need in self.needs[spot]):
                    self.lacking.add(spot)
        now = {spot: self.given.get(spot, 0) for spot in self.spots if spot not in self.lacking}
        self.rounds = [now]
        while True:
            later = {spot: self.told(spot, now) for spot in now}
            if later == now:
                break
            self.rounds.append(later)
            now = later

    def told(self, spot, now):
        if spot in self.given:
            return self.given[spot]
        path, (making, target, op, terms) = self.rules[spot]
        numbers, needed = [], iter(self.needs[spot])
        for term in terms:
            if term[0] in ("at", "kept"):
                numbers.append(now[next(needed)])
            else:
                numbers.append(self.own[path] if term[0] == "own" else term[1])
        return min(self.cap, OPS[op](*[min(self.cap, number) for number in numbers]))

    def rows(self):
        found = []
        for spot in self.spots:
            if spot in self.lacking:
                found.append((*spot, None, 0))
            else:
                last = self.rounds[-1][spot]
                since = min(at for at in range(len(self.rounds)) if all(row[spot] == last for row in self.rounds[at:]))
                found.append((*spot, last, since))
        return found

    def so(self, thing):
        if type(thing) is not list or len(thing) != len(self.spots):
            return False
        now = {}
        for spot, row in zip(self.spots, thing):
            if type(row) is not tuple or len(row) != 3 or repr(row[:2]) != repr(spot):
                return False
            if spot in self.lacking:
                if row[2] is not None:
                    return False
            elif type(row[2]) is not int or not 0 <= row[2] <= self.cap:
                return False
            else:
                now[spot] = row[2]
        return all(self.told(spot, now) == now[spot] for spot in now)

    def greatest(self):
        now = {spot: self.given.get(spot, self.cap) for spot in self.rounds[0]}
        while True:
            later = {spot: self.told(spot, now) for spot in now}
            if later == now:
                return [(*spot, now.get(spot)) for spot in self.spots]
            now = later


def capped(seed, many, nodes=15, **told):
    """(rows, tree, given) by chance, under a cap."""
    rng = random.Random(seed)
    for cap in (1, 2, 5, 9):
        for rows in grammars_by_chance(seed + cap, many, cap=cap, **told):
            for tree in trees_by_chance(rng, rows, 2, nodes):
                if len(walk(tree)) <= nodes:
                    downs, ups = worths_of(rows, tree[0])
                    yield rows, tree, [(down, number_by_chance(rng)) for down in downs if rng.random() < 0.8]


# A ring that counts up to the cap, and one that stays.
COUNT = (
    [("s", ("d",), ("u", "v"))], [("m", "s", ())],
    [("m", ("kept", "k"), "plus", (("kept", "k"), ("own",))), ("m", ("at", 0, "u"), "least", (("kept", "k"), ("at", 0, "d"))),
     ("m", ("kept", "j"), "copy", (("kept", "j"),)), ("m", ("at", 0, "v"), "most", (("kept", "j"), ("number", 2)))], 5,
)


class WrittenOut(Asking):
    def test_counting_up(self):
        grammar = made(COUNT)
        due = [((), "d", 3, 0), ((), "u", 3, 4), ((), "v", 2, 1), ((), "j", 0, 0), ((), "k", 5, 5)]
        same(self, rest_of(grammar, ("m", 1, ()), given=[("d", 3)]), due)
        same(self, rest_of(rounds=6, given=[("d", 3)], tree=("m", 1, ()), grammar=grammar), due)
        # u and v are in round 0 what they're not worth yet, so round 5 is the last that changes something.
        for rounds in (1, 2, 3, 4, 5):
            self.refused(TooMuch, "many", rounds, rest_of, grammar, ("m", 1, ()), given=[("d", 3)], rounds=rounds)
        for rounds in (6, 7, 120):
            same(self, rest_of(grammar, ("m", 1, ()), given=[("d", 3)], rounds=rounds), due)
        same(self, rest_of(grammar, ("m", 1, ())), [((), "d", None, 0), ((), "u", None, 0), *due[2:]])
        same(self, rest_of(grammar, ("m", 3, ()), given=[("d", 9)])[0], ((), "d", 5, 0))
        same(self, rest_of(grammar, ("m", 0, ()), given=[("d", 0)], rounds=2)[4], ((), "k", 0, 0))

    def test_nothing_that_changes(self):
        grammar = Grammar([("s", (), ("u",))], [("m", "s", ())], [("m", ("at", 0, "u"), "copy", (("own",),))], cap=3)
        same(self, rest_of(grammar, ("m", 0, ()), rounds=1), [((), "u", 0, 0)])
        self.refused(TooMuch, "many", 1, rest_of, grammar, ("m", 1, ()), rounds=1)
        same(self, rest_of(grammar, ("m", 7, ()), rounds=2), [((), "u", 3, 1)])

    def test_the_fewest_lack(self):
        """A ring lacks only where it needs what lacks by itself."""
        rules = [("m", ("kept", "j"), "copy", (("kept", "k"),)), ("m", ("kept", "k"), "plus", (("kept", "j"), ("at", 0, "d")))]
        grammar = Grammar([("s", ("d",), ("u",))], [("m", "s", ())], rules, cap=2)
        same(self, rest_of(grammar, ("m", 0, ())), [((), name, None, 0) for name in "dujk"])
        due = [((), "d", 1, 0), ((), "u", None, 0), ((), "j", 2, 4), ((), "k", 2, 3)]
        same(self, rest_of(grammar, ("m", 0, ()), given=[("d", 1)]), due)
        same(self, rests(grammar, ("m", 0, ()), [row[:3] for row in due], given=[("d", 1)]), True)
        same(self, rests(grammar, ("m", 0, ()), [((), name, None) for name in "dujk"], given=[("d", 1)]), False)
        same(self, rests(grammar, ("m", 0, ()), [((), name, None) for name in "dujk"]), True)

    def test_other_points(self):
        grammar = made(COUNT)
        row = [((), "d", 3), ((), "u", 3), ((), "v", 2), ((), "j", 0), ((), "k", 5)]
        self.assertIs(rests(grammar, ("m", 1, ()), row, given=[("d", 3)]), True)
        self.assertIs(rests(given=[("d", 3)], thing=row, tree=("m", 1, ()), grammar=grammar), True)
        for number, due in ((0, 2), (1, 2), (2, 2), (3, 3), (5, 5)):
            other = row[:2] + [((), "v", due), ((), "j", number), row[4]]
            self.assertIs(rests(grammar, ("m", 1, ()), other, given=[("d", 3)]), True)
        self.assertIs(rests(grammar, ("m", 1, ()), row[:2] + [((), "v", 6), ((), "j", 6), row[4]], given=[("d", 3)]), False)
        self.assertIs(rests(grammar, ("m", 1, ()), row), False)
        self.assertIs(rests(grammar, ("m", 1, ()), [((), "d", None), ((), "u", None), *row[2:]]), True)
        # Given above the cap: its own number, to the cap.
        above = [((), "d", 5), ((), "u", 5), *row[2:]]
        self.assertIs(rests(grammar, ("m", 1, ()), above, given=[("d", 9)]), True)
        self.assertIs(rests(grammar, ("m", 1, ()), [((), "d", 9), *above[1:]], given=[("d", 9)]), False)

    def test_refusals_in_order(self):
        plain = Grammar(*COUNT[:3])
        grammar = made(COUNT)
        for ask, more in ((rest_of, ()), (rests, ([],))):
            for tree, given in ((None, None), (("m", 0, ()), ()), (("m", 0, ()), 7), (("x", 0, ()), ())):
                self.refused(NoCap, "under", 0, ask, plain, tree, *more, given=given)
            for thing in [*THINGS, ("m", 10 ** 6, ())]:
                self.refused(NoTree, "thing", thing, ask, grammar, thing, *more, given=[("x", 1)])
                if thing not in ((), []):
                    self.refused(NoGiven, "thing", thing, ask, grammar, ("m", 0, ()), *more, given=thing)
            for given in ([("d", -1)], [("d", True)], [("d", 1), ("d", 1)], [("u", 1)], [["d", 1]], (("d", 1),)):
                self.refused(NoGiven, "thing", given, ask, grammar, ("m", 0, ()), *more, given=given)
        self.refused(NoCap, "under", 0, rest_of, plain, ("m", 1, ()), rounds=1)
        self.refused(NoGiven, "thing", 3, rest_of, grammar, ("m", 1, ()), given=3, rounds=1)
        self.refused(NoCap, "under", 0, rests, made(LETS), ("leaf", 0, ()), [])

    def test_by_their_names_alone(self):
        with self.assertRaises(TypeError):
            rest_of(made(COUNT), ("m", 1, ()), ())
        with self.assertRaises(TypeError):
            rests(made(COUNT), ("m", 1, ()), [], ())

    def test_the_rounds_that_are_taken(self):
        """A ring of fifteen spots in which one counts up to the cap, once in fifteen rounds."""
        rules = [("top", ("at", 1, "d"), "copy", (("at", 1, "u"),)), ("n", ("at", 1, "d"), "copy", (("at", 0, "d"),)),
                 ("n", ("at", 0, "u"), "copy", (("at", 1, "u"),)), ("z", ("at", 0, "u"), "plus", (("at", 0, "d"), ("number", 1)))]
        makings = [("top", "s", ("s",)), ("n", "s", ("s",)), ("z", "s", ())]
        tree = ("z", 0, ())
        for step in range(6):
            tree = ("n", 0, (tree,))
        for cap, fits in ((8, True), (9, False)):
            grammar = Grammar([("s", ("d",), ("u",))], makings, rules, cap=cap)
            whole = ("top", 0, (tree,))
            due = Rest(([("s", ("d",), ("u",))], makings, rules, cap), whole, [])
            last = len(due.rounds) - 1
            self.assertEqual(last < 120, fits)
            same(self, rest_of(grammar, whole, rounds=last + 1), due.rows())
            self.refused(TooMuch, "many", last, rest_of, grammar, whole, rounds=last)
            if fits:
                same(self, rest_of(grammar, whole), due.rows())
            else:
                self.refused(TooMuch, "many", 120, rest_of, grammar, whole)


class ByChance(Asking):
    def test_rounds(self):
        rings = lacking = long = 0
        for rows, tree, given in [*capped(201, 40), *capped(206, 50, share=1, calm=False)]:
            due = Rest(rows, tree, given)
            last = len(due.rounds) - 1
            told = rest_of(made(rows), tree, given=given)
            same(self, told, due.rows())
            same(self, rest_of(made(rows), tree, given=given, rounds=last + 1), told)
            same(self, rest_of(made(rows), tree, given=given, rounds=last + 2), told)
            for rounds in {last, last - 1, 1} - {0, -1, last + 1}:
                self.refused(TooMuch, "many", rounds, rest_of, made(rows), tree, given=given, rounds=rounds)
            plain = Due(rows, tree, given)
            rings += bool(plain.hang)
            lacking += bool(due.lacking)
            long += last > 6
            if not plain.hang:
                same(self, [row[:3] for row in told], by_demand(made(rows), tree, given=given))
            else:
                known = {row[:2]: row[2] for row in told}
                for spot in plain.known:
                    self.assertEqual(known[spot], plain.known[spot])
        for count in (rings, lacking):
            self.assertGreater(count, 50)
        self.assertGreater(long, 10)

    def test_rests(self):
        rng = random.Random(202)
        greater = True
        for rows, tree, given in capped(203, 20, nodes=6):
            due = Rest(rows, tree, given)
            grammar = made(rows)
            least = [row[:3] for row in rest_of(grammar, tree, given=given)]
            most = due.greatest()
            greater += least != most
            for thing in (least, most):
                self.assertIs(rests(grammar, tree, thing, given=given), True)
                things = list(spoilt(thing))
                for other in rng.sample(things, min(60, len(things))):
                    shown = repr(other)
                    same(self, rests(grammar, tree, other, given=given), due.so(other))
                    self.assertEqual(repr(other), shown)
                for at in range(len(thing)):
                    for number in (None, 0, 1, rows[3], rows[3] + 1, True, -1):
                        other = thing[:at] + [(*thing[at][:2], number)] + thing[at + 1:]
                        same(self, rests(grammar, tree, other, given=given), due.so(other))
                same(self, rests(grammar, tree, thing), Rest(rows, tree, []).so(thing))
            self.assertIs(rests(grammar, tree, rest_of(grammar, tree, given=given), given=given), least == [])
        self.assertGreater(greater, 10)

    def test_no_other_point_is_lesser_anywhere(self):
        several = 0
        for rows, tree, given in [*capped(204, 60, nodes=3), *capped(207, 60, nodes=3, share=1, calm=False)]:
            due = Rest(rows, tree, given)
            free = [spot for spot in due.spots if spot not in due.lacking]
            if not 1 <= (rows[3] + 1) ** len(free) <= 600:
                continue
            grammar = made(rows)
            least = {row[:2]: row[2] for row in rest_of(grammar, tree, given=given)}
            points = 0
            for numbers in itertools.product(range(rows[3] + 1), repeat=len(free)):
                now = dict(zip(free, numbers))
                thing = [(*spot, now.get(spot)) for spot in due.spots]
                told = rests(grammar, tree, thing, given=given)
                same(self, told, due.so(thing))
                if told:
                    points += 1
                    self.assertTrue(all(now[spot] >= least[spot] for spot in free))
            self.assertGreater(points, 0)
            several += points > 1
        self.assertGreater(several, 15)

    def test_things_of_any_make(self):
        grammar = made(COUNT)
        due = Rest(COUNT, ("m", 1, ()), [("d", 3)])
        row = [((), "d", 3), ((), "u", 3), ((), "v", 2), ((), "j", 0), ((), "k", 5)]
        empty = Grammar([("s", (), ())], [("m", "s", ())], [], cap=1)
        for thing in THINGS:
            for whole in (thing, [thing], row + [thing], row[:4] + [thing], tuple(row), [thing] * 5, [list(row[0])] + row[1:]):
                same(self, rests(grammar, ("m", 1, ()), whole, given=[("d", 3)]), due.so(whole))
            for at in range(5):
                for place in range(3):
                    parts = list(row[at])
                    parts[place] = thing
                    whole = row[:at] + [tuple(parts)] + row[at + 1:]
                    same(self, rests(grammar, ("m", 1, ()), whole, given=[("d", 3)]), due.so(whole))
            same(self, rests(empty, ("m", 0, ()), thing), type(thing) is list and thing == [])

    def test_truths_for_places(self):
        rules = [("n", ("at", 0, "u"), "copy", (("at", 1, "u"),)), ("z", ("at", 0, "u"), "copy", (("own",),))]
        grammar = Grammar([("s", (), ("u",))], [("n", "s", ("s",)), ("z", "s", ())], rules, cap=1)
        tree = ("n", 0, (("z", 1, ()),))
        self.assertIs(rests(grammar, tree, [((), "u", 1), ((1,), "u", 1)]), True)
        self.assertIs(rests(grammar, tree, [((), "u", 1), ((True,), "u", 1)]), False)
        self.assertIs(rests(grammar, tree, [((), "u", True), ((1,), "u", 1)]), False)


class HandedIn(Asking):
    def test_what_is_told_is_the_askers_own(self):
        for rows, tree, given in capped(205, 6, nodes=8):
            handed = copied(given)
            grammar = made(rows)
            told = rest_of(grammar, tree, given=handed)
            same(self, handed, given)
            kept = copied(told)
            told.reverse()
            told.clear()
            handed.append(("x", 1))
            same(self, rest_of(grammar, tree, given=given), kept)
            self.assertIsNot(rest_of(grammar, tree, given=given), rest_of(grammar, tree, given=given))

    def test_great_numbers(self):
        grammar = made(COUNT)
        same(self, rest_of(grammar, ("m", TOP, ()), given=[("d", TOP)])[1], ((), "u", 5, 2))


if __name__ == "__main__":
    unittest.main()
