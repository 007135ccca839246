"""[20]: logs, and the interface, "pricespin/logs.py"."""

import inspect
import random
import unittest

import samples
from books import BEYOND, BOOK, CAPPED
from brute import behind
from pricespin import logs as module
from pricespin.errors import InvalidLog, InvalidPrices, InvalidRules
from pricespin.logs import fault
from samples import GREAT, any_rules, assert_raised, kept, plain, price


def told_log(rules, prices, order):
    """The log of the repricings in this order."""
    return [(shop, behind(rules, prices, order[:at + 1])[shop]) for at, shop in enumerate(order)]


class TestInterface(unittest.TestCase):
    def test_the_function_is_defined_here_with_these_names(self):
        self.assertTrue(inspect.isfunction(fault))
        self.assertEqual(fault.__module__, "pricespin.logs")
        self.assertIs(module.fault, fault)
        self.assertEqual(list(inspect.signature(fault).parameters), ["rules", "prices", "log"])

    def test_arguments_by_name(self):
        self.assertIsNone(fault(rules=[plain(2)], prices=[1], log=[(0, 2)]))


class TestErrors(unittest.TestCase):
    def test_no_rules(self):
        for rules in samples.NO_RULES:
            assert_raised(self, InvalidRules, fault, rules, [0], [])
            assert_raised(self, InvalidRules, fault, rules, None, None)

    def test_no_prices(self):
        for rules in ([plain()], BOOK, [price(0)] * 6):
            for prices in samples.no_prices(len(rules)):
                assert_raised(self, InvalidPrices, fault, rules, prices, [])
                assert_raised(self, InvalidPrices, fault, rules, prices, None)

    def test_no_log(self):
        for rules in ([plain(5)], BOOK, [price(0)] * 6):
            for log in samples.no_logs(len(rules)):
                assert_raised(self, InvalidLog, fault, rules, [5] * len(rules), log)

    def test_a_wrong_entry_behind_a_fault(self):
        assert_raised(self, InvalidLog, fault, [plain(5)], [0], [(0, 6), (1, 5)])
        assert_raised(self, InvalidLog, fault, [plain(5)], [0], [(0, 6), (0, True)])

    def test_lengths(self):
        self.assertIsNone(fault([plain(5)], [0], []))
        self.assertIsNone(fault([plain(5)], [0], [(0, 5)] * 200))
        assert_raised(self, InvalidLog, fault, [plain(5)], [0], [(0, 5)] * 201)
        self.assertEqual(fault([plain(5)], [0], [(0, 5)] * 199 + [(0, 4)]), 199)
        assert_raised(self, InvalidLog, fault, [plain(5)], [0], [(0, 4)] + [(0, 5)] * 200)


class TestFault(unittest.TestCase):
    def test_some(self):
        for log, told in [
                ([], None), ([(0, 93)], None), ([(0, 93), (1, 96)], None), ([(0, 93), (1, 95)], 1), ([(0, 92)], 0),
                ([(1, 93), (0, 98), (0, 98), (1, 101)], None), ([(1, 93), (0, 98), (0, 97), (1, 90)], 2),
                ([(0, 93), (1, 96), (0, 100), (1, 103), (0, 100)], None), ([(1, 91), (0, 93)], 0)]:
            self.assertEqual(kept(self, fault, CAPPED, [90, 88], log), told)

    def test_the_first_one_of_several(self):
        self.assertEqual(fault(BOOK, [0, 0], [(0, 5), (1, 7), (0, 99), (5 - 4, 8)]), 1)

    def test_any_logs(self):
        draw = random.Random(201)
        for _ in range(200):
            shops = draw.randint(1, 6)
            rules = any_rules(draw, shops)
            prices = [draw.randint(-9, 9) for _ in rules]
            log = told_log(rules, prices, [draw.randrange(shops) for _ in range(draw.randint(1, 12))])
            self.assertIsNone(kept(self, fault, rules, prices, log))
            at = draw.randrange(len(log))
            shop, told = log[at]
            wrong = log[:at] + [(shop, told + draw.choice([-1, 1, GREAT]))] + log[at + 1:]
            self.assertEqual(kept(self, fault, rules, prices, wrong), at)

    def test_no_rows_are_needed(self):
        self.assertIsNone(fault(BEYOND, [1, 2, 3, 4, 5, 6], [(0, 2), (5, 3)]))

    def test_prices_of_any_size(self):
        for start in (10 ** 199, -10 ** 2500):
            self.assertIsNone(fault(BOOK, [start, start], [(0, start + 5), (1, start + 8)]))
            self.assertEqual(fault(BOOK, [start, start], [(0, start + 5), (1, start + 7)]), 1)


if __name__ == "__main__":
    unittest.main()
