"""[13] and the interface, "pricespin/holds.py"."""

import inspect
import itertools
import random
import time
import unittest

import samples
from books import BEYOND, BOOK, CAPPED, JUST, ROWS_BEYOND, SLOW, mirrors
from brute import choices, holding, lots_of, rise
from pricespin import holds
from pricespin.errors import InvalidRules, TooMany
from pricespin.holds import caps, floors
from pricespin.terms import mirror
from samples import GREAT, any_rules, assert_raised, kept, least, most, plain, price, rank, scaled

# Each pair of two chases itself up; a third one needs both of another two.
THREE_PAIRS = [price(1, 1), price(0), price(3, 1), price(2), price(5, 1), price(4)]


def fewest(rules):
    """The first lot of shops, shorter ones first, without which nothing rises without end."""
    for lot in lots_of(len(rules)):
        if None not in rise(holding(rules, lot), [0] * len(rules)):
            return lot
    raise AssertionError


class TestInterface(unittest.TestCase):
    def test_functions_are_defined_here_with_these_names(self):
        for function in (caps, floors):
            self.assertTrue(inspect.isfunction(function))
            self.assertEqual(function.__module__, "pricespin.holds")
            self.assertIs(getattr(holds, function.__name__), function)
            self.assertEqual(list(inspect.signature(function).parameters), ["rules"])

    def test_arguments_by_name(self):
        self.assertEqual((caps(rules=[price(0, 1)]), floors(rules=[price(0, 1)])), ([0], []))


class TestErrors(unittest.TestCase):
    def test_no_rules(self):
        for rules in samples.NO_RULES:
            assert_raised(self, InvalidRules, caps, rules)
            assert_raised(self, InvalidRules, floors, rules)

    def test_too_many_for_caps_alone(self):
        for rules in (BEYOND, ROWS_BEYOND):
            assert_raised(self, TooMany, caps, rules)
            self.assertEqual(floors(rules), fewest(mirrors(rules)))

    def test_too_many_for_floors_alone(self):
        for rules in (mirrors(BEYOND), mirrors(ROWS_BEYOND)):
            assert_raised(self, TooMany, floors, rules)
            self.assertEqual(caps(rules), fewest(rules))

    def test_just_so_many(self):
        self.assertEqual((caps(JUST), floors(JUST)), (fewest(JUST), fewest(mirrors(JUST))))
        self.assertEqual((floors(mirrors(JUST)), caps(mirrors(JUST))), (fewest(JUST), fewest(mirrors(JUST))))


class TestHolds(unittest.TestCase):
    """[13]"""

    def assert_held(self, rules, capped, floored):
        self.assertEqual(kept(self, caps, rules), capped, rules)
        self.assertEqual(kept(self, floors, rules), floored, rules)
        self.assertEqual((caps(mirrors(rules)), floors(mirrors(rules))), (floored, capped))

    def test_some(self):
        self.assert_held(BOOK, [0], [])
        self.assert_held(CAPPED, [], [])
        self.assert_held(SLOW, [], [])
        self.assert_held([plain(3)], [], [])
        self.assert_held([price()], [], [])
        self.assert_held([price(0, 1)], [0], [])
        self.assert_held([price(0, 1), price(1, -1)], [0], [1])
        self.assert_held([price(0), price(1, 1)], [1], [])
        self.assert_held([price(shop, GREAT) for shop in range(6)], [0, 1, 2, 3, 4, 5], [])
        self.assert_held([price(shop, (-1) ** shop) for shop in range(6)], [0, 2, 4], [1, 3, 5])
        self.assert_held(THREE_PAIRS, [0, 2, 4], [])
        self.assert_held([price(1, 1), price(2, 1), price(0, -1), price(3, 1), price(4, -3), price(4)],
                         [0, 3], [4])

    def test_fewer_shops_ahead_of_lesser_numbers(self):
        self.assert_held([price(2, 1), price(2, 1), most(price(0), price(1))], [2], [])
        self.assert_held([price(3, 1), price(3, 1), price(3, 1), most(*[price(shop) for shop in range(3)])], [3], [])
        both = [price(4, 1), price(4, 1), price(5, 1), price(5, 1), most(price(0), price(1)), most(price(2), price(3))]
        self.assert_held(both, [4, 5], [])

    def test_the_least_of_the_lists_with_as_few(self):
        # shops 1 and 2 are in both rings, 0 and 3 in one each
        rules = [price(1, 1), price(2, 1), most(price(0), price(3)), price(1, 1)]
        self.assert_held(rules, [1], [])
        self.assertEqual([shop for shop in range(4) if None not in rise(holding(rules, [shop]), [0] * 4)], [1, 2])
        self.assert_held([most(price(1, 1), price(0, 1)), price(0), price(2, 1)], [0, 2], [])
        # one more shop does as well as the two least ones
        self.assert_held([most(price(1), price(2)), most(price(0, 1), price(2)), price(2, 1)], [0, 2], [])

    def test_one_of_two_that_hold_one_another(self):
        # who is below both others rises no further than one of them
        self.assert_held([least(price(1, 1), price(2, 1)), price(0), price(0)], [0], [])
        self.assert_held([least(price(1, 1), price(2, 1)), price(0), price(2, 1)], [2], [])
        self.assert_held([rank(2, price(1, 1), price(2, 1), price(0, 1)), price(1, 1), price(2, 1)], [1, 2], [])
        self.assert_held([rank(3, price(1, 1), price(2, 1), price(0, 1)), price(1, 1), price(2, 1)], [0, 1, 2], [])
        self.assert_held([rank(2, price(1, 1), price(2, 1), price(0, -1)), price(0), price(0)], [0], [])

    def test_any_rules(self):
        draw = random.Random(131)
        lengths = [[], []]
        for turn in range(450):
            shops = draw.randint(2, 6)
            rules = any_rules(draw, shops, draw.choice([2, 3]), 2)
            if turn % 3 == 0:
                rules = [draw.choice([most, least, most])(rule, price(shop, draw.choice([-1, 1])))
                         for shop, rule in enumerate(rules)]
            if max(choices(rules), choices(mirrors(rules))) > 20000:
                continue
            found = [fewest(rules), fewest(mirrors(rules))]
            self.assert_held(rules, *found)
            for at in (0, 1):
                lengths[at].append(len(found[at]))
        for some in lengths:
            self.assertGreater(min(some.count(many) for many in (0, 1, 2, 3)), 5)

    def test_great_numbers(self):
        draw = random.Random(132)
        for _ in range(100):
            rules = any_rules(draw, draw.randint(1, 6), 3)
            if max(choices(rules), choices(mirrors(rules))) <= 20000:
                self.assert_held(scaled(rules, 2 * 10 ** 29), caps(rules), floors(rules))

    def test_new_lists_and_equal_answers(self):
        for rules in (BOOK, CAPPED, THREE_PAIRS, [price(0, 1)] * 6):
            samples.assert_new(self, caps(rules), caps, rules)
            samples.assert_new(self, floors(rules), floors, rules)


class TestTime(unittest.TestCase):
    def test_at_the_bounds(self):
        ranks = [rank(k, *[price(other, (shop - other) * GREAT // 9) for other in range(6)])
                 for shop, k in enumerate((2, 5, 5, 5, 1, 1))]
        own = [most(price(shop, 1), least(rule, plain(GREAT))) for shop, rule in enumerate(THREE_PAIRS)]
        for rules, function in itertools.product((JUST, BEYOND, ROWS_BEYOND, ranks, own, THREE_PAIRS), (caps, floors)):
            for given in (rules, mirrors(rules), [mirror(rules[0])] * len(rules)):
                begun = time.monotonic()
                try:
                    function(given)
                except TooMany:
                    pass
                self.assertLess(time.monotonic() - begun, 3)


if __name__ == "__main__":
    unittest.main()
