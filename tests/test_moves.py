"""[9] and the interface, "pricespin/moves.py"."""

import inspect
import random
import time
import unittest

import samples
from books import BOOK, CAPPED
from brute import behind, expected
from pricespin import moves
from pricespin.errors import InvalidOrder, InvalidPrices, InvalidRules, TooMany
from pricespin.moves import along, played, restless
from samples import GREAT, any_rules, assert_raised, kept, least, most, plain, price, rank, wide

# Each shop takes over the next one's price, so that prices go round.
ROUND = [price(1), price(2), price(3), price(4), price(5), price(0)]


def counter(top):
    """A rule whose price rises by one at each repricing, up to top."""
    return least(price(0, 1), plain(top))


class TestInterface(unittest.TestCase):
    def test_functions_are_defined_here_with_these_names(self):
        names = {"along": ["rules", "prices", "order"], "restless": ["rules", "prices"],
                 "played": ["rules", "prices", "order"]}
        for name, arguments in names.items():
            function = getattr(moves, name)
            self.assertTrue(inspect.isfunction(function))
            self.assertEqual(function.__module__, "pricespin.moves")
            self.assertEqual(list(inspect.signature(function).parameters), arguments)

    def test_arguments_by_name(self):
        self.assertEqual(along(rules=[plain(2)], prices=[1], order=[0]), [[2]])
        self.assertEqual(restless(rules=[plain(2)], prices=[1]), [(0, 1)])
        self.assertEqual(played(rules=[plain(2)], prices=[1], order=[0]), (1, 1, [2]))


class TestErrors(unittest.TestCase):
    """[2], [9]: wrong rules, prices and orders, and which of them is told first."""

    def test_no_rules(self):
        for rules in samples.NO_RULES:
            assert_raised(self, InvalidRules, restless, rules, [0])
            for function in (along, played):
                assert_raised(self, InvalidRules, function, rules, [0], [0])

    def test_rules_of_each_number(self):
        for many in range(1, 7):
            rules = [price(many - 1 - shop) for shop in range(many)]
            self.assertEqual(restless(rules, [7] * many), [])
            assert_raised(self, InvalidRules, restless, rules[:-1] + [price(many)], [7] * many)
            if many > 1:
                assert_raised(self, InvalidRules, restless, rules[:-1], [7] * (many - 1))
        assert_raised(self, InvalidRules, restless, [], [])
        assert_raised(self, InvalidRules, restless, [plain()] * 7, [0] * 7)

    def test_no_prices(self):
        for rules in ([plain()], [price()], BOOK, ROUND):
            for prices in samples.no_prices(len(rules)):
                assert_raised(self, InvalidPrices, restless, rules, prices)
                for function in (along, played):
                    assert_raised(self, InvalidPrices, function, rules, prices, [0])

    def test_no_orders(self):
        for rules in ([plain()], BOOK, ROUND):
            for order in samples.no_orders(len(rules)):
                for function in (along, played):
                    assert_raised(self, InvalidOrder, function, rules, [0] * len(rules), order)

    def test_which_is_told_first(self):
        wrong = [None, True, "a", (), {}, [None], [[]], [True], [0] * 1100]
        for rules in [*wrong, [price(1)], [price(), None]]:
            for prices in [*wrong, [0]]:
                assert_raised(self, InvalidRules, restless, rules, prices)
                for order in [*wrong, [7], [0]]:
                    for function in (along, played):
                        assert_raised(self, InvalidRules, function, rules, prices, order)
        for prices in wrong:
            for order in [*wrong, [7], [0]]:
                for function in (along, played):
                    assert_raised(self, InvalidPrices, function, [price()], prices, order)
        # ahead of TooMany
        assert_raised(self, InvalidOrder, played, [price(0, 1)], [0], [1])
        assert_raised(self, InvalidOrder, played, [price(0, 1)], [0], [0] * 1001)

    def test_lengths_of_orders(self):
        self.assertEqual(along(BOOK, [1, 2], []), [])
        assert_raised(self, InvalidOrder, played, BOOK, [1, 2], [])
        self.assertEqual(len(along(BOOK, [1, 2], [0, 1] * 500)), 1000)
        for function in (along, played):
            assert_raised(self, InvalidOrder, function, BOOK, [1, 2], [0, 1] * 500 + [0])
        self.assertEqual(played([plain(3)], [3], [0] * 1000), (0, 1, [3]))


class TestAlong(unittest.TestCase):
    def test_some_repricings(self):
        self.assertEqual(along(BOOK, [0, 0], [0, 1, 1]), [[5, 0], [5, 8], [5, 8]])
        self.assertEqual(along(BOOK, [0, 0], [1, 0, 1, 0]), [[0, 3], [8, 3], [8, 11], [16, 11]])
        self.assertEqual(along([plain(-4)], [9], [0, 0]), [[-4], [-4]])
        self.assertEqual(along(CAPPED, [90, 99], [0, 1]), [[100, 99], [100, 103]])
        self.assertEqual(along([rank(2, *[price(shop) for shop in range(3)]), price(2, 1), plain(0)], [9, 5, 7],
                               [0, 2, 0, 1, 0]), [[7, 5, 7], [7, 5, 0], [5, 5, 0], [5, 1, 0], [1, 1, 0]])

    def test_its_own_price_may_stand_in_a_rule(self):
        self.assertEqual(along([price(0, 2)], [1], [0, 0, 0]), [[3], [5], [7]])
        self.assertEqual(along([price(0, -GREAT)], [1], [0, 0]), [[1 - GREAT], [1 - 2 * GREAT]])

    def test_prices_with_many_digits(self):
        for start in (10 ** 199, -10 ** 199, 10 ** 2500, -10 ** 5000 + 1):
            self.assertEqual(along(BOOK, [start, 0], [1, 0]), [[start, start + 3], [start + 8, start + 3]])
            self.assertEqual(restless(BOOK, [start, start]), [(0, 5), (1, 3)])
            self.assertEqual(played([price(1), price(1)], [start, start - 1], [0, 1]), (1, 1, [start - 1, start - 1]))

    def test_any_rules(self):
        draw = random.Random(91)
        for _ in range(150):
            shops = draw.randint(1, 6)
            rules = any_rules(draw, shops)
            prices = [draw.randint(-9, 9) for _ in rules]
            order = [draw.randrange(shops) for _ in range(draw.randint(0, 12))]
            told = kept(self, along, rules, prices, order)
            self.assertEqual(told, [behind(rules, prices, order[:at + 1]) for at in range(len(order))])

    def test_new_lists_and_equal_answers(self):
        order = [0, 1, 1, 0, 0]
        samples.assert_new(self, along(CAPPED, [0, 0], order), along, CAPPED, [0, 0], order)
        samples.assert_new(self, along([plain(1)], [1], [0, 0]), along, [plain(1)], [1], [0, 0])
        samples.assert_new(self, [], along, CAPPED, [0, 0], [])

    def test_a_thousand_repricings_of_heavy_rules(self):
        begun = time.monotonic()
        start = [3, 1, 4, 1, 5, 9]
        self.assertEqual(along([wide(40)] * 6, start, [5, 1] * 500)[-1], behind([wide(40)] * 6, start, [5, 1]))
        with self.assertRaises(TooMany):
            played([*[wide(40)] * 5, price(5, 1)], [0] * 6, [0, 5])
        self.assertLess(time.monotonic() - begun, 3)


class TestRestless(unittest.TestCase):
    def test_some(self):
        self.assertEqual(restless(BOOK, [0, 0]), [(0, 5), (1, 3)])
        self.assertEqual(restless(BOOK, [5, 0]), [(1, 8)])
        self.assertEqual(restless(CAPPED, [100, 103]), [])
        self.assertEqual(restless(CAPPED, [100, 104]), [(1, -1)])
        self.assertEqual(restless(CAPPED, [101, 104]), [(0, -1)])
        self.assertEqual(restless(ROUND, [1, 1, 1, 2, 1, 1]), [(2, 1), (3, -1)])
        self.assertEqual(restless([plain(-GREAT)], [GREAT]), [(0, -2 * GREAT)])
        self.assertEqual(restless([price()], [3]), [])

    def test_any_rules(self):
        draw = random.Random(92)
        for _ in range(150):
            rules = any_rules(draw, draw.randint(1, 6))
            prices = [draw.randint(-4, 4) for _ in rules]
            told = [(shop, expected(rule, prices) - prices[shop]) for shop, rule in enumerate(rules)]
            self.assertEqual(kept(self, restless, rules, prices), [pair for pair in told if pair[1]])

    def test_new_lists_and_equal_answers(self):
        samples.assert_new(self, [(0, 5), (1, 3)], restless, BOOK, [0, 0])
        samples.assert_new(self, [], restless, [price()], [0])


class TestPlayed(unittest.TestCase):
    def test_some(self):
        self.assertEqual(played(CAPPED, [0, 0], [0, 1]), (13, 1, [100, 103]))
        self.assertEqual(played(CAPPED, [100, 103], [0, 1]), (0, 1, [100, 103]))
        self.assertEqual(played(ROUND, [1, 0, 0, 0, 0, 0], [0]), (1, 1, [0] * 6))
        self.assertEqual(played([price(1), price(0)], [1, 2], [0]), (1, 1, [2, 2]))

    def test_prices_that_go_round(self):
        # the last one keeps a price while the others hand theirs on
        order = [5, 0, 1, 2, 3, 4]
        self.assertEqual(played(ROUND, [1, 2, 3, 4, 5, 9], order), (1, 5, [2, 3, 4, 5, 1, 1]))
        self.assertEqual(played(ROUND, [1, 2, 3, 4, 5, 5], order), (0, 5, [1, 2, 3, 4, 5, 5]))
        self.assertEqual(played(ROUND, [1, 1, 1, 1, 1, 1], order), (0, 1, [1] * 6))
        swap = [price(1), price(2), price(0)]
        self.assertEqual(played(swap, [1, 2, 2], [2, 0, 1]), (0, 2, [1, 2, 2]))
        self.assertEqual(played(swap, [1, 2, 7], [2, 0, 1]), (1, 2, [2, 1, 1]))
        self.assertEqual(played(swap, [1, 2, 2], [2, 0, 1] * 2), (0, 1, [1, 2, 2]))
        # two rounds of just 500 repricings, and of more
        self.assertEqual(played(swap, [1, 2, 1], [2, 0, 1] * 165 + [2, 2, 2, 2, 2]), (0, 2, [1, 2, 1]))
        assert_raised(self, TooMany, played, swap, [1, 2, 1], [2, 0, 1] * 165 + [2, 2, 2, 2, 2, 2])

    def test_the_least_first_and_then_the_least_length(self):
        draw = random.Random(93)
        long = 0
        for turn in range(600):
            shops = draw.randint(1, 5)
            rules = any_rules(draw, shops, great=2)
            prices = [draw.randint(-5, 5) for _ in rules]
            order = [draw.randrange(shops) for _ in range(draw.randint(1, 8))]
            if turn >= 300:
                rules = [price((shop + 1) % shops) for shop in range(shops)]
                order = draw.sample(range(shops), shops)
            states = [prices]
            while states[-1] not in states[:-1] and (len(states) - 1) * len(order) <= 1000:
                states.append(behind(rules, states[-1], order))
            if (len(states) - 1) * len(order) > 1000:
                assert_raised(self, TooMany, played, rules, prices, order)
                continue
            first = states.index(states[-1])
            length = len(states) - 1 - first
            long += length > 1
            self.assertEqual(kept(self, played, rules, prices, order), (first, length, states[first]))
        self.assertGreater(long, 5)

    def test_just_a_thousand_repricings(self):
        # top rounds and one more that changes nothing
        for top, order in [(999, [0]), (499, [0, 1]), (199, [0, 1, 1, 1, 1]), (1, [0] + [1] * 499),
                           (0, [0] + [1] * 999)]:
            rules = [counter(top), plain(0)]
            self.assertEqual((top + 1) * len(order), 1000)
            self.assertEqual(played(rules, [0, 0], order), (top, 1, [top, 0]))
            assert_raised(self, TooMany, played, [counter(top + 1), plain(0)], [0, 0], order)
        self.assertEqual(played([counter(332), plain(0)], [0, 0], [0, 1, 1]), (332, 1, [332, 0]))
        assert_raised(self, TooMany, played, [counter(333), plain(0)], [0, 0], [0, 1, 1])
        assert_raised(self, TooMany, played, [counter(1), plain(0)], [0, 0], [0] + [1] * 500)

    def test_they_never_come_again(self):
        for order in ([0], [0, 1], [1] * 1000):
            assert_raised(self, TooMany, played, [price(0, 1), price(1, -1)], [0, 0], order)
        assert_raised(self, TooMany, played, [counter(GREAT)], [0], [0])

    def test_new_lists_and_equal_answers(self):
        for prices in ([0, 0], [100, 103]):
            samples.assert_new(self, played(CAPPED, prices, [0, 1]), played, CAPPED, prices, [0, 1])
        samples.assert_new(self, (0, 1, [3]), played, [most(plain(3))], [3], [0])


if __name__ == "__main__":
    unittest.main()
