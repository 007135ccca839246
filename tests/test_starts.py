"""[15] and the interface, "pricespin/starts.py"."""

import inspect
import random
import time
import unittest

import brute
import samples
from books import BEYOND, BOOK, CAPPED, JUST, ROWS_BEYOND, SLOW, mirrors
from pricespin import starts as module
from pricespin.ends import ends
from pricespin.errors import InvalidLimits, InvalidPrices, InvalidRules, InvalidShop, TooMany
from pricespin.starts import greatest_start
from samples import GREAT, any_rules, assert_raised, kept, least, most, plain, price, rank, scaled


def no_limits(many):
    """What are no limits of so many shops."""
    right = [0] * many
    return [
        *[value for value in samples.ODD_VALUES if many != 1 or value != [0]], right + [0], right + [None], right[1:],
        [0] * 7, [None] * 7, [0] * 1100, tuple(right), dict(enumerate(right)), "0" * many, right[1:] + [True],
        right[1:] + [False], [True] + right[1:], right[1:] + ["0"], right[1:] + [(0,)], right[1:] + [[0]],
        right[1:] + [{}], [[None] * many], right[1:] + [[]], right[1:] + [""], [()],
    ]


def beyond(tops, limits):
    return any(limit is not None and (top is None or top > limit) for top, limit in zip(tops, limits))


def opened(prices, shop, number):
    return prices[:shop] + [number] + prices[shop + 1:]


class TestInterface(unittest.TestCase):
    def test_the_function_is_defined_here_with_these_names(self):
        self.assertTrue(inspect.isfunction(greatest_start))
        self.assertEqual(greatest_start.__module__, "pricespin.starts")
        self.assertIs(module.greatest_start, greatest_start)
        self.assertEqual(list(inspect.signature(greatest_start).parameters), ["rules", "prices", "shop", "limits"])

    def test_arguments_by_name(self):
        self.assertEqual(greatest_start(rules=[price()], prices=[1], shop=0, limits=[4]), ("most", 4))


class TestErrors(unittest.TestCase):
    """[2], [15]: what is wrong, and which of it is told first."""

    def test_no_rules(self):
        for rules in samples.NO_RULES:
            assert_raised(self, InvalidRules, greatest_start, rules, [0], 0, [0])
        for rules in (None, [], [price(1)]):
            assert_raised(self, InvalidRules, greatest_start, rules, None, None, None)

    def test_no_prices(self):
        for rules in ([plain()], BOOK, [price(0)] * 6, BEYOND):
            for prices in samples.no_prices(len(rules)):
                assert_raised(self, InvalidPrices, greatest_start, rules, prices, 0, [0] * len(rules))
                assert_raised(self, InvalidPrices, greatest_start, rules, prices, None, None)

    def test_no_shop(self):
        for rules in ([plain()], BOOK, [price(0)] * 6, BEYOND):
            many = len(rules)
            for shop in samples.no_shops(many):
                assert_raised(self, InvalidShop, greatest_start, rules, [0] * many, shop, [0] * many)
                assert_raised(self, InvalidShop, greatest_start, rules, [0] * many, shop, None)

    def test_no_limits(self):
        for rules in ([plain()], BOOK, [price(0)] * 6, BEYOND, ROWS_BEYOND):
            many = len(rules)
            for limits in no_limits(many):
                assert_raised(self, InvalidLimits, greatest_start, rules, [0] * many, many - 1, limits)

    def test_too_many(self):
        for rules in (BEYOND, ROWS_BEYOND):
            for limits in ([0] * 6, [None] * 6, [-GREAT] * 6):
                assert_raised(self, TooMany, greatest_start, rules, [0] * 6, 5, limits)
        # not for the mirrors
        for rules in (mirrors(BEYOND), mirrors(ROWS_BEYOND), JUST, mirrors(JUST)):
            self.assertEqual(greatest_start(rules, [0] * 6, 5, [None] * 6), ("any",))
            self.assertEqual(greatest_start(rules, [0] * 6, 5, [-1] + [None] * 5), ("none",))


class TestGreatestStart(unittest.TestCase):
    def assert_start(self, rules, prices, shop, limits, *told):
        answer = kept(self, greatest_start, rules, prices, shop, limits)
        self.assertEqual(answer, told, (rules, prices, shop, limits))
        # the price that is told for the open shop is of no matter
        for number in (0, -10 ** 199, 10 ** 2500):
            self.assertEqual(greatest_start(rules, opened(prices, shop, number), shop, limits), told)

    def test_some(self):
        self.assert_start([price(1, 5), plain(7)], [0, 0], 1, [50, None], "most", 45)
        self.assert_start([price(1, 5), plain(7)], [0, 0], 1, [50, 44], "most", 44)
        self.assert_start([price(1, 5), plain(7)], [0, 0], 1, [50, 45], "most", 45)
        self.assert_start([price(1, 5), plain(7)], [0, 0], 1, [None, 44], "most", 44)
        self.assert_start([price(1, 5), plain(7)], [0, 0], 1, [11, None], "none")
        self.assert_start([price(1, 5), plain(7)], [0, 0], 1, [12, None], "most", 7)
        self.assert_start([price(1, 5), plain(7)], [0, 0], 1, [None, None], "any")
        self.assert_start([price(1, 5), plain(7)], [0, 0], 1, [None, 6], "none")
        self.assert_start([price(1, 5), plain(7)], [0, 0], 1, [None, 7], "most", 7)
        # its own price at the beginning is replaced, but counts
        self.assert_start([price(1, 5), plain(7)], [0, 0], 0, [3, None], "none")
        self.assert_start([price(1, 5), plain(7)], [0, 0], 0, [12, None], "most", 12)
        self.assert_start([price(1, 5), plain(7)], [0, 0], 0, [None, 7], "any")
        self.assert_start([price(1, 5), plain(7)], [0, 8], 0, [None, 7], "none")
        self.assert_start(CAPPED, [0, 0], 1, [95, None], "none")
        self.assert_start(CAPPED, [0, 0], 1, [100, None], "any")
        self.assert_start(CAPPED, [101, 0], 1, [100, None], "none")
        self.assert_start(CAPPED, [0, 0], 1, [100, 103], "most", 103)
        self.assert_start(CAPPED, [0, 0], 1, [100, 102], "none")
        self.assert_start(CAPPED, [0, 0], 0, [None, 120], "most", 117)

    def test_a_single_shop(self):
        self.assert_start([price()], [3], 0, [9], "most", 9)
        self.assert_start([price()], [3], 0, [None], "any")
        self.assert_start([price(0, 1)], [3], 0, [9], "none")
        self.assert_start([price(0, 1)], [3], 0, [None], "any")
        self.assert_start([price(0, -1)], [3], 0, [-9], "most", -9)
        self.assert_start([plain(9)], [3], 0, [9], "most", 9)
        self.assert_start([plain(9)], [3], 0, [8], "none")
        self.assert_start([least(price(0, 1), plain(9))], [3], 0, [9], "most", 9)
        self.assert_start([least(price(0, 1), plain(9))], [3], 0, [8], "none")

    def test_limits_of_the_risers(self):
        self.assert_start(BOOK, [0, 0], 0, [None, None], "any")
        self.assert_start(BOOK, [0, 0], 0, [10 ** 199, None], "none")
        self.assert_start(BOOK + [price(2)], [0, 0, 0], 0, [None, None, 0], "any")
        self.assert_start(BOOK + [price(2)], [0, 0, 1], 0, [None, None, 0], "none")
        self.assert_start(BOOK + [price(2)], [0, 0, 1], 2, [None, None, 0], "most", 0)
        self.assert_start(BOOK + [least(price(0), price(2))], [0, 0, 1], 2, [None, None, 0], "most", 0)
        self.assert_start(BOOK + [price(0)], [0, 0, 1], 2, [None, None, 0], "none")

    def test_one_that_leads_nowhere_but_when_others_are_low(self):
        # c is below the greater of a and b: beyond 20 it does not come as long as b is not
        rules = [price(0), price(1), least(most(price(0), price(1)), plain(30))]
        self.assert_start(rules, [0, 5, 0], 0, [None, None, 20], "most", 20)
        self.assert_start(rules, [0, 21, 0], 0, [None, None, 20], "none")
        self.assert_start(rules, [0, 21, 0], 0, [None, None, 30], "any")
        rules = [price(0), price(1), least(price(0), price(1))]
        self.assert_start(rules, [0, 21, 0], 0, [None, None, 20], "most", 20)
        self.assert_start(rules, [0, 20, 0], 0, [None, None, 20], "any")
        self.assert_start(rules, [0, 20, 0], 0, [70, None, 20], "most", 70)
        self.assert_start(rules, [0, 20, 21], 0, [70, None, 20], "none")
        self.assert_start(rules, [0, 20, 20], 0, [70, 19, 20], "none")

    def test_limits_far_apart(self):
        far = 10 ** 199
        for low, high in ((-far, far), (0, far), (-far, 0), (-GREAT, GREAT), (5 * GREAT, 60 * GREAT)):
            rules = [price(0), price(0, 4), price(2)]
            self.assert_start(rules, [0, low, low], 0, [high, None, low], "most", high)
            self.assert_start(rules, [0, low, low], 0, [None, high, low], "most", high - 4)
            self.assert_start(rules, [0, low, low], 0, [low, high, low], "most", low)
            self.assert_start(rules, [0, low, low], 0, [high, low, low], "most", low - 4)
            self.assert_start(rules, [0, low, low], 0, [None, None, low], "any")
            self.assert_start(rules, [0, low, low + 1], 0, [high, high, low], "none")

    def test_longest_ways_of_great_adds(self):
        for sign in (1, -1):
            rules = [price(0)] + [price(shop, sign * GREAT) for shop in range(5)]
            for limit in (0, 7, -10 ** 40, 10 ** 199):
                low = [limit - 10 * GREAT] * 6
                self.assert_start(rules, low, 0, [None] * 5 + [limit], "most", limit - sign * 5 * GREAT)
        self.assert_start(SLOW, [0, 0], 1, [GREAT, None], "any")
        self.assert_start(SLOW, [0, 0], 1, [GREAT - 1, None], "none")

    def test_as_all_small_prices_say(self):
        draw = random.Random(151)
        kinds = {"most": 0, "any": 0, "none": 0}
        for _ in range(300):
            rules = any_rules(draw, draw.randint(1, 5), draw.choice([2, 3]), 3)
            if brute.choices(rules) > 20000:
                continue
            shop = draw.randrange(len(rules))
            limits = [draw.choice([None, draw.randint(-5, 12)]) for _ in rules]
            prices = [draw.randint(-12, 6) for _ in rules]
            right = [number for number in range(-40, 41)
                     if not beyond(brute.rise(rules, opened(prices, shop, number)), limits)]
            self.assertEqual(right, list(range(-40, 41))[:len(right)])
            told = ("none",) if not right else ("any",) if len(right) == 81 else ("most", right[-1])
            kinds[told[0]] += 1
            self.assert_start(rules, prices, shop, limits, *told)
        self.assertGreater(min(kinds.values()), 30)

    def test_great_numbers(self):
        draw = random.Random(152)
        exact = 0
        for turn in range(250):
            shops = draw.randint(2, 6)
            rules = [most(rule, price(shop)) for shop, rule in enumerate(any_rules(draw, shops, 3))]
            rules = scaled(rules, draw.randint(1, 2 * 10 ** 29))
            if brute.choices(rules) > 20000:
                continue
            shop = draw.randrange(shops)
            limits = [draw.choice([None, draw.randint(-GREAT, 5 * GREAT)]) for _ in rules]
            prices = [draw.randint(-5 * GREAT, GREAT) for _ in rules]
            told = kept(self, greatest_start, rules, prices, shop, limits)

            def is_beyond(number):
                return beyond([top for _, top in ends(rules, opened(prices, shop, number))], limits)

            if told[0] == "most":
                exact += 1
                self.assertFalse(is_beyond(told[1]))
                self.assertTrue(is_beyond(told[1] + 1))
            else:
                number = 10 ** 199 if told[0] == "any" else -10 ** 199
                self.assertIs(is_beyond(number), told[0] == "none")
        self.assertGreater(exact, 50)

    def test_equal_answers(self):
        for limits in ([50, None], [11, None], [None, None]):
            samples.assert_new(self, greatest_start([price(1, 5), plain(7)], [0, 0], 1, limits),
                               greatest_start, [price(1, 5), plain(7)], [0, 0], 1, limits)


class TestTime(unittest.TestCase):
    def test_at_the_bounds(self):
        draw = random.Random(153)

        def part():
            return price(draw.randrange(6), draw.randint(-GREAT, GREAT))

        many = [JUST, mirrors(JUST), BEYOND, mirrors(BEYOND), ROWS_BEYOND, SLOW * 3]
        for _ in range(20):
            rules = [rank(k, *[part() for _ in range(6)]) for k in (2, 2, 5, 5, 3, 1)]
            while brute.choices(rules) > 20000:
                rules[draw.randrange(6)] = most(part(), part(), plain(draw.randint(-GREAT, GREAT)))
            many.append(rules)
        for rules in many:
            for limits in ([3 * GREAT] * 6, [-10 ** 199, 10 ** 199] * 3, [None] * 5 + [0]):
                begun = time.monotonic()
                try:
                    greatest_start(rules, [draw.randint(-9 * GREAT, 0) for _ in rules], 2, limits)
                except TooMany:
                    pass
                self.assertLess(time.monotonic() - begun, 2)


if __name__ == "__main__":
    unittest.main()
