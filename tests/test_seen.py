"""[24], [25] and the interface, "pricespin/seen.py"."""

import inspect
import itertools
import random
import unittest

import samples
from pricespin import seen as module
from pricespin.errors import InvalidKind, InvalidPrices, InvalidSeen
from pricespin.seen import fit_rule, foretell
from samples import GREAT, assert_raised, kept, lists_in

SEEN = [([5, 9], 6), ([8, 6], 5)]
KINDS = {"least": min, "most": max}
NO_KINDS = [*samples.ODD_VALUES, "Least", "least ", "rank", "plain", "lea", "mostly", ("least",), ["least"], b"least"]


def no_seen():
    right = ([5, 9], 6)
    wrong = [
        ([5, 9],), ([5, 9], 6, 6), [[5, 9], 6], ((5, 9), 6), ([], 6), ([0] * 7, 6), ([0] * 1100, 6), ([5], 6),
        ([5, 9, 1], 6), ([5, None], 6), ([5, True], 6), ([5, "9"], 6), ([5, [9]], 6), ([False, 9], 6), ([5, 9], None),
        ([5, 9], True), ([5, 9], "6"), ([5, 9], [6]), ([5, 9], (6,)), (5, 9), ({5: 9}, 6), ({0: 5, 1: 9}, 6),
        ("59", 6), (), (None, 6), ([[5, 9]], 6), {0: 5}, (right, 6),
    ]
    # of unlike lengths they are wrong only beside others
    alone = [item for item in wrong if item not in (([5], 6), ([5, 9, 1], 6))]
    return [
        *samples.ODD_VALUES, (right,), (right, right), {0: right}, {"prices": [5, 9]}, [right] * 51, [right] * 1100,
        right, [[right]], *[[item] for item in alone], *[[right, item] for item in wrong],
        *[[item, right] for item in wrong], *[[right] * 49 + [item] for item in wrong],
        *[[value] for value in samples.ODD_VALUES],
    ]


def small_rules(shops, reach):
    """All simple rules with small parts: their adds, and the number as the last; None for what is left out."""
    some = [None, *range(-reach, reach + 1)]
    return [rule for rule in itertools.product(some, repeat=shops + 1) if any(part is not None for part in rule)]


def tells(kind, rule, prices):
    *adds, number = rule
    parts = [price + add for price, add in zip(prices, adds) if add is not None]
    return KINDS[kind](parts + ([] if number is None else [number]))


class TestInterface(unittest.TestCase):
    def test_functions_are_defined_here_with_these_names(self):
        for function, names in ((fit_rule, ["kind", "seen"]), (foretell, ["kind", "seen", "prices"])):
            self.assertTrue(inspect.isfunction(function))
            self.assertEqual(function.__module__, "pricespin.seen")
            self.assertIs(getattr(module, function.__name__), function)
            self.assertEqual(list(inspect.signature(function).parameters), names)

    def test_arguments_by_name(self):
        self.assertEqual(fit_rule(kind="most", seen=SEEN), ("rule", [-3, -3], 5))
        self.assertEqual(foretell(kind="least", seen=SEEN, prices=[7, 9]), (6, 8))


class TestErrors(unittest.TestCase):
    """[2], [24], [25]: what is wrong, and which of it is told first."""

    def test_no_kind(self):
        for kind in NO_KINDS:
            for seen in (SEEN, [], None, [([5, 9], 6), ([5, 9], 7)]):
                assert_raised(self, InvalidKind, fit_rule, kind, seen)
                for prices in ([7, 9], None):
                    assert_raised(self, InvalidKind, foretell, kind, seen, prices)

    def test_no_seen(self):
        for kind in KINDS:
            for seen in no_seen():
                assert_raised(self, InvalidSeen, fit_rule, kind, seen)
                for prices in ([7, 9], None):
                    assert_raised(self, InvalidSeen, foretell, kind, seen, prices)

    def test_no_prices(self):
        for kind in KINDS:
            for many in (1, 2, 6):
                seen = [([5] * many, 6)]
                for prices in samples.no_prices(many):
                    assert_raised(self, InvalidPrices, foretell, kind, seen, prices)
                    # ahead of None
                    assert_raised(self, InvalidPrices, foretell, kind, seen + [([5] * many, 7)], prices)

    def test_as_many_as_50(self):
        seen = [([5, 9], 6)] * 50
        for kind in KINDS:
            self.assertEqual(fit_rule(kind, seen), ("rule", [1, -3], 6))
            self.assertEqual(foretell(kind, seen, [5, 9]), (6, 6))
            self.assertEqual(fit_rule(kind, seen[:49] + [([5, 9], 7)]), ("fault", 49))
            for function, more in ((fit_rule, ()), (foretell, ([5, 9],))):
                assert_raised(self, InvalidSeen, function, kind, seen + seen[:1], *more)


class TestFitRule(unittest.TestCase):
    """[24]"""

    def test_some(self):
        for kind, seen, told in [
                ("least", SEEN, ("rule", [1, -1], 6)), ("most", SEEN, ("rule", [-3, -3], 5)),
                ("least", [([4], 9)], ("rule", [5], 9)), ("most", [([4], 9)], ("rule", [5], 9)),
                ("least", [([4], 9), ([5], 10)], ("rule", [5], 10)), ("most", [([4], 9), ([5], 10)], ("rule", [5], 9)),
                ("least", [([4], 9), ([5], 9)], ("rule", [5], 9)), ("least", [([4], 9), ([5], 8)], ("fault", 1)),
                ("least", [([4], 9), ([4], 8)], ("fault", 1)), ("most", [([4], 9), ([5], 8)], ("fault", 1)),
                ("least", [([4], 9), ([6], 12)], ("fault", 1)), ("least", [([4], 9), ([4], 9), ([4], 7)], ("fault", 2)),
                # the rise from 9 to 10 is told by shop 0, then nothing tells 9
                ("least", [([4, 0], 9), ([5, 0], 10), ([6, 9], 9)], ("fault", 2)),
                ("most", [([1, 2, 3], -4)], ("rule", [-5, -6, -7], -4))]:
            self.assertEqual(kept(self, fit_rule, kind, seen), told, (kind, seen))

    def test_the_first_fault_of_several(self):
        seen = [([0], 0), ([1], 1), ([1], 2), ([1], 3), ([0], 0)]
        for kind in KINDS:
            self.assertEqual(fit_rule(kind, seen), ("fault", 2))
            self.assertEqual(fit_rule(kind, seen[:2])[0], "rule")

    def test_all_small_rules(self):
        draw = random.Random(241)
        kinds = {"rule": 0, "fault": 0}
        rules = {shops: small_rules(shops, reach) for shops, reach in ((1, 12), (2, 9))}
        for _ in range(200):
            kind = draw.choice(["least", "most"])
            shops = draw.choice([1, 2, 2])
            rule = draw.choice(small_rules(shops, 3))
            seen = [[draw.randint(-3, 3) for _ in range(shops)] for _ in range(draw.randint(1, 5))]
            seen = [(prices, tells(kind, rule, prices) + (draw.random() < 0.1)) for prices in seen]
            left = rules[shops]
            at = 0
            while at < len(seen) and left:
                left = [rule for rule in left if tells(kind, rule, seen[at][0]) == seen[at][1]]
                at += 1
            told = kept(self, fit_rule, kind, seen)
            kinds[told[0]] += 1
            if not left:
                self.assertEqual(told, ("fault", at - 1))
                self.assertIsNone(foretell(kind, seen, seen[0][0]))
                continue
            word, adds, number = told
            self.assertEqual((word, type(adds), type(number)), ("rule", list, int))
            self.assertIn((*adds, number), left)
            self.assertEqual((*adds, number), tuple(
                KINDS[kind](rule[part] for rule in left if rule[part] is not None) for part in range(shops + 1)))
            asked = [draw.randint(-4, 4) for _ in range(shops)]
            answers = sorted({tells(kind, rule, asked) for rule in left})
            low, high = kept(self, foretell, kind, seen, asked)
            self.assertEqual((low, high), (answers[0], answers[-1]), (kind, seen, asked))
            self.assertEqual(answers, list(range(low, high + 1)))
        self.assertGreater(min(kinds.values()), 30)

    def test_great_numbers(self):
        draw = random.Random(242)
        for _ in range(100):
            kind = draw.choice(["least", "most"])
            shops = draw.randint(1, 6)
            rule = [draw.choice([None, draw.randint(-GREAT, GREAT)]) for _ in range(shops)]
            rule.append(draw.randint(-GREAT, GREAT))
            lots = [[draw.randint(-GREAT, GREAT) for _ in range(shops)] for _ in range(draw.randint(1, 50))]
            seen = [(prices, tells(kind, rule, prices)) for prices in lots]
            word, adds, number = fit_rule(kind, seen)
            self.assertEqual([tells(kind, [*adds, number], prices) for prices in lots], [told for _, told in seen])
            for part, own in zip([*adds, number], rule):
                self.assertEqual(own is None or KINDS[kind](part, own) == part, True)
            asked = [draw.randint(-GREAT, GREAT) for _ in range(shops)]
            low, high = foretell(kind, seen, asked)
            self.assertTrue(low <= tells(kind, rule, asked) <= high)
            self.assertIn(tells(kind, [*adds, number], asked), (low, high))
        for start in (10 ** 199, -10 ** 2000):
            self.assertEqual(fit_rule("least", [([start], 0), ([start + 1], 1)]), ("rule", [-start], 1))

    def test_new_lists_and_equal_answers(self):
        for kind in KINDS:
            samples.assert_new(self, fit_rule(kind, SEEN), fit_rule, kind, SEEN)
            self.assertEqual(len(list(lists_in(fit_rule(kind, SEEN)))), 1)


class TestForetell(unittest.TestCase):
    """[25]"""

    def test_some(self):
        for kind, seen, prices, told in [
                ("least", SEEN, [7, 9], (6, 8)), ("least", SEEN, [5, 9], (6, 6)), ("least", SEEN, [8, 6], (5, 5)),
                ("least", [([4], 9)], [4], (9, 9)), ("least", [([4], 9)], [6], (9, 11)),
                ("least", [([4], 9)], [1], (6, 9)), ("most", [([4], 9)], [6], (9, 11)),
                ("most", [([4], 9)], [1], (6, 9)),
                ("least", [([4], 9), ([5], 10)], [9], (10, 14)), ("least", [([4], 9), ([5], 10)], [0], (5, 5)),
                ("least", [([4], 9), ([5], 9)], [0], (5, 9)), ("most", [([4], 9), ([5], 10)], [0], (5, 9)),
                ("most", [([4], 9), ([5], 9)], [9], (9, 13)), ("least", [([4], 9), ([4], 8)], [4], None),
                ("least", [([4, 0], 9)], [9, -9], (0, 14)), ("most", [([4, 0], 9)], [9, -9], (0, 14))]:
            self.assertEqual(kept(self, foretell, kind, seen, prices), told, (kind, seen, prices))

    def test_what_was_seen_is_foretold(self):
        draw = random.Random(243)
        for _ in range(60):
            kind = draw.choice(["least", "most"])
            shops = draw.randint(1, 6)
            rule = [draw.randint(-9, 9) for _ in range(shops + 1)]
            lots = [[draw.randint(-9, 9) for _ in range(shops)] for _ in range(6)]
            seen = [(prices, tells(kind, rule, prices)) for prices in lots]
            for prices, told in seen:
                self.assertEqual(foretell(kind, seen, prices), (told, told))

    def test_equal_answers(self):
        for prices in ([7, 9], [0, 0]):
            samples.assert_new(self, foretell("least", SEEN, prices), foretell, "least", SEEN, prices)


if __name__ == "__main__":
    unittest.main()
