"""[10], [11], [12] and the interface, "pricespin/ends.py"."""

import inspect
import itertools
import random
import time
import unittest

import brute
import samples
from books import BEYOND, BOOK, CAPPED, JUST, ONE_MORE, PAIR, ROWS_BEYOND, SIX, SLOW, TEN, TWENTY, mirrors, read_rules
from brute import behind, fall, rise
from pricespin import ends as module
from pricespin.ends import endless, endless_round, ends, last_round
from pricespin.errors import InvalidPrices, InvalidRules, TooMany
from pricespin.terms import mirror
from pricespin.texts import read_term
from samples import GREAT, any_rules, assert_raised, bounded, kept, least, most, plain, price, rank, scaled, wide

WITH_PRICES = (ends, last_round)
RULES_ALONE = (endless, endless_round)


def told_choices(rules):
    """(choices of the rules, choices of their mirrors)"""
    return brute.choices(rules), brute.choices(mirrors(rules))


class TestInterface(unittest.TestCase):
    def test_functions_are_defined_here_with_these_names(self):
        for function in WITH_PRICES + RULES_ALONE:
            self.assertTrue(inspect.isfunction(function))
            self.assertEqual(function.__module__, "pricespin.ends")
            self.assertIs(getattr(module, function.__name__), function)
            names = ["rules", "prices"] if function in WITH_PRICES else ["rules"]
            self.assertEqual(list(inspect.signature(function).parameters), names)

    def test_arguments_by_name(self):
        self.assertEqual(ends(rules=[plain(2)], prices=[1]), [(1, 2)])
        self.assertEqual(last_round(rules=[plain(2)], prices=[1]), ("round", [0]))
        self.assertEqual(endless(rules=[plain(2)]), ([], []))
        self.assertIsNone(endless_round(rules=[plain(2)]))


class TestErrors(unittest.TestCase):
    """[2], [9] to [12]: wrong rules and prices, too many choices, and which of them is told first."""

    def test_no_rules(self):
        for rules in samples.NO_RULES:
            for function in WITH_PRICES:
                assert_raised(self, InvalidRules, function, rules, [0])
                assert_raised(self, InvalidRules, function, rules, None)
            for function in RULES_ALONE:
                assert_raised(self, InvalidRules, function, rules)

    def test_no_prices(self):
        for rules in ([plain()], BOOK, [price(0)] * 6, BEYOND, ROWS_BEYOND):
            for prices in samples.no_prices(len(rules)):
                for function in WITH_PRICES:
                    assert_raised(self, InvalidPrices, function, rules, prices)

    def assert_too_many(self, rules, *functions):
        for function in functions:
            given = [rules, [0] * len(rules)] if function in WITH_PRICES else [rules]
            assert_raised(self, TooMany, function, *given)
        for function in (*WITH_PRICES, *RULES_ALONE):
            if function not in functions:
                function(*([rules, [0] * len(rules)] if function in WITH_PRICES else [rules]))

    def test_too_many_choices(self):
        self.assertEqual(told_choices(JUST), (20000, 15 * 15 * 5))
        self.assert_too_many(JUST)
        self.assertEqual(told_choices(BEYOND), (20250, 6 ** 3))
        self.assert_too_many(BEYOND, ends, last_round, endless, endless_round)
        self.assertEqual(told_choices(ONE_MORE)[0], 20001)
        self.assert_too_many(ONE_MORE, *WITH_PRICES, *RULES_ALONE)
        self.assert_too_many(read_rules(TWENTY, TWENTY, TEN, SIX, "a", "a"), *WITH_PRICES, *RULES_ALONE)

    def test_too_many_choices_of_the_mirrors(self):
        self.assert_too_many(mirrors(JUST))
        self.assertEqual(told_choices(mirrors(BEYOND)), (6 ** 3, 20250))
        self.assert_too_many(mirrors(BEYOND), ends, endless)

    def test_too_many_rows(self):
        self.assert_too_many(ROWS_BEYOND, *WITH_PRICES, *RULES_ALONE)
        self.assert_too_many(ROWS_BEYOND[1:] + ROWS_BEYOND[:1], *WITH_PRICES, *RULES_ALONE)
        self.assert_too_many(mirrors(ROWS_BEYOND), ends, endless)

    def test_many_choices_that_are_alike(self):
        rules = [least(*[price(shop, add) for add in range(6)]) for shop in range(6)]
        self.assertEqual(told_choices(rules), (1, 1))
        self.assert_too_many(rules)


class TestEnds(unittest.TestCase):
    """[10]"""

    def assert_ends(self, rules, prices, *expected):
        self.assertEqual(kept(self, ends, rules, prices), list(expected), (rules, prices))

    def test_a_single_shop(self):
        self.assert_ends([price()], [7], (7, 7))
        self.assert_ends([price(0, 1)], [7], (7, None))
        self.assert_ends([price(0, -1)], [7], (None, 7))
        self.assert_ends([plain(3)], [7], (3, 7))
        self.assert_ends([plain(9)], [7], (7, 9))
        self.assert_ends([least(price(0, 1), plain(9))], [7], (7, 9))
        self.assert_ends([least(price(0, 1), plain(9))], [20], (9, 20))
        self.assert_ends([most(price(0, -2), plain(-9))], [7], (-9, 7))
        self.assert_ends([most(price(0, 1), plain(-9))], [7], (7, None))
        self.assert_ends([most(price(0, 1), plain(9))], [-GREAT], (-GREAT, None))
        self.assert_ends([rank(2, price(0, 1), price(0, -1), plain(5))], [0], (0, 5))

    def test_some_rules(self):
        self.assert_ends(BOOK, [0, 0], (0, None), (0, None))
        self.assert_ends(CAPPED, [93, 88], (93, 100), (88, 103))
        self.assert_ends(SLOW, [0, 0], (0, GREAT), (0, GREAT))
        self.assert_ends(mirrors(BOOK), [0, 0], (None, 0), (None, 0))
        self.assert_ends(mirrors(SLOW), [0, 0], (-GREAT, 0), (-GREAT, 0))
        self.assert_ends(PAIR, [4, 7], (4, 7), (4, 7))
        self.assert_ends(PAIR, [10, 20], (10, 10), (10, 20))
        self.assert_ends(PAIR, [0, 50], (0, 10), (3, 50))

    def test_a_riser_raises_others_but_not_all(self):
        rules = [price(0, 1), price(0, -5), least(price(1), plain(40)), plain(8), most(price(3), price(1)), price(5)]
        self.assert_ends(rules, [0] * 6, (0, None), (-5, None), (-5, 40), (0, 8), (0, None), (0, 0))

    def test_that_rises_and_falls(self):
        rules = [rank(2, price(1, 3), price(2, -3), price(0)), price(0), price(0)]
        self.assert_ends(rules, [0, 0, 0], (0, 0), (0, 0), (0, 0))
        self.assert_ends([price(1, 1), price(2, -1), price(0)], [5, 0, 9], (1, 9), (0, 8), (1, 9))
        self.assert_ends([most(price(1, 1), price(2, -1)), price(0), price(0)], [0, 0, 0], *[(0, None)] * 3)

    def test_more_repricings_than_any_program_can_go(self):
        rules = [least(price(5, 1), plain(GREAT)), *[price(shop) for shop in range(5)]]
        self.assert_ends(rules, [-GREAT] * 6, *[(-GREAT, GREAT)] * 6)
        self.assertEqual(last_round(rules, [-GREAT] * 6), ("round", [0, 1, 2, 3, 4, 5]))
        rules = [least(most(price(1, 1), price(0)), plain(GREAT)), least(most(price(0, 1), price(1)), plain(GREAT))]
        self.assert_ends(rules, [-GREAT, -GREAT], (-GREAT, GREAT), (-GREAT, GREAT))

    def test_great_adds_that_come_together(self):
        rules = [plain(GREAT), *[price(shop, GREAT) for shop in range(5)]]
        self.assert_ends(rules, [0] * 6, *[(0, count * GREAT) for count in range(1, 7)])
        rules = [most(price(5, -GREAT), plain(GREAT)), *[price(shop, GREAT) for shop in range(3)], price(3, -GREAT),
                 price(4, -GREAT)]
        self.assert_ends(rules, [0] * 6, *[(0, count * GREAT) for count in range(1, 5)], (-GREAT, 3 * GREAT),
                         (-2 * GREAT, 2 * GREAT))

    def test_prices_of_any_size(self):
        for start in (10 ** 199, -10 ** 199, 10 ** 33, -10 ** 33, 10 ** 2500, -10 ** 4000):
            self.assert_ends([price(0, 1)], [start], (start, None))
            self.assert_ends([price()], [start], (start, start))
            self.assert_ends([plain(3), price(0, -GREAT)], [start, 1], (min(start, 3), max(start, 3)),
                             (min(start, 3) - GREAT, max(start - GREAT, 1)) if start > 0 else (start - GREAT, 1))
            low, high = sorted([start, -start])
            self.assert_ends([price(1, 5), price(1)], [start, -start], *[
                (min(start, 5 - start), max(start, 5 - start)), (-start, -start)])
            self.assert_ends([price(1), price(0)], [low, high], (low, high), (low, high))

    def test_all_prices_that_can_be_come_to(self):
        """By the words of [10]: every repricing is tried from everywhere."""
        draw = random.Random(101)
        between = 0
        for _ in range(120):
            rules = bounded(any_rules(draw, draw.randint(1, 3), great=3), -5, 5)
            prices = [draw.randint(-6, 6) for _ in rules]
            found = brute.come_to(rules, prices)
            expected = [(min(column), max(column)) for column in zip(*found)]
            self.assert_ends(rules, prices, *expected)
            # all the greatest ones, and all the least ones, at once
            self.assertIn(tuple(high for _, high in expected), found)
            self.assertIn(tuple(low for low, _ in expected), found)
            between += any(-5 < high < 5 and high > price for (_, high), price in zip(expected, prices))
        self.assertGreater(between, 15)

    def test_any_rules(self):
        draw = random.Random(102)
        kinds = {"all": 0, "some": 0, "none": 0}
        for _ in range(500):
            rules = any_rules(draw, draw.randint(1, 6), draw.choice([2, 3, 4]))
            prices = [draw.randint(-12, 12) for _ in rules]
            if max(told_choices(rules)) > 20000:
                continue
            highs, lows = rise(rules, prices), fall(rules, prices)
            self.assert_ends(rules, prices, *zip(lows, highs))
            kinds["all" if set(highs) == {None} else "some" if None in highs else "none"] += 1
        self.assertGreater(min(kinds.values()), 20)

    def test_rings_of_many_shops(self):
        """Rules with many rings, some longer than 0, some not, of which rows are chosen."""
        draw = random.Random(103)
        many = 0
        for _ in range(250):
            shops = draw.randint(3, 6)
            rules = []
            for _ in range(shops):
                groups = [most(*[price(draw.randrange(shops), draw.randint(-3, 2)) for _ in range(draw.randint(1, 3))])
                          for _ in range(draw.randint(1, 4))]
                rules.append(least(*groups, plain(draw.randint(5, 40))) if draw.random() < 0.6 else most(*groups))
            prices = [draw.randint(-9, 9) for _ in rules]
            if max(told_choices(rules)) <= 20000:
                self.assert_ends(rules, prices, *zip(fall(rules, prices), rise(rules, prices)))
                many += brute.choices(rules) > 50
        self.assertGreater(many, 40)

    def test_great_numbers_are_told_exactly(self):
        draw = random.Random(104)
        factor = 2 * 10 ** 29
        for _ in range(200):
            rules = any_rules(draw, draw.randint(1, 6), 3)
            prices = [draw.randint(-9, 9) for _ in rules]
            if max(told_choices(rules)) > 20000:
                continue
            told = [tuple(None if end is None else end * factor for end in pair) for pair in ends(rules, prices)]
            self.assert_ends(scaled(rules, factor), [number * factor for number in prices], *told)
            # one more at one shop is less than any add
            prices = [number * factor + (shop == 0) for shop, number in enumerate(prices)]
            exact = [[end for end in pair if end is not None] for pair in ends(scaled(rules, factor), prices)]
            self.assertTrue(all(end % factor in (0, 1) for pair in exact for end in pair))

    def test_new_lists_and_equal_answers(self):
        for rules, prices in ((BOOK, [0, 0]), (CAPPED, [3, 5]), (JUST, [6, 5, 4, 3, 2, 1])):
            samples.assert_new(self, ends(rules, prices), ends, rules, prices)
            samples.assert_new(self, last_round(rules, prices), last_round, rules, prices)
            samples.assert_new(self, endless(rules), endless, rules)
        samples.assert_new(self, endless_round(BOOK), endless_round, BOOK)


class TestLastRound(unittest.TestCase):
    """[11]"""

    def assert_round(self, rules, prices, tops):
        word, shops = kept(self, last_round, rules, prices)
        if None in tops:
            self.assertEqual((word, shops), ("endless", [shop for shop, top in enumerate(tops) if top is None]))
            return
        self.assertEqual((word, type(shops)), ("round", list))
        above = [shop for shop, top in enumerate(tops) if top > prices[shop]]
        self.assertEqual(sorted(shops), above)
        lower = [top - 1 if shop in above else top for shop, top in enumerate(tops)]
        for at, shop in enumerate(shops):
            lower = behind(rules, lower, [shop])
            self.assertEqual(lower[shop], tops[shop], (rules, prices, shops[:at + 1]))

    def test_some(self):
        self.assertEqual(last_round(BOOK, [0, 0]), ("endless", [0, 1]))
        self.assertEqual(last_round(CAPPED, [90, 88]), ("round", [0, 1]))
        self.assertEqual(last_round(CAPPED, [100, 103]), ("round", []))
        self.assertEqual(last_round(CAPPED, [100, 90]), ("round", [1]))
        self.assertEqual(last_round([price(0, -1)], [4]), ("round", []))
        self.assertEqual(last_round([price(1), price(2), plain(4), price(5), price(3, 1), plain(-1)], [0] * 6),
                         ("round", [2, 1, 0, 4]))
        self.assertEqual(last_round([price(1, -1), price(1, 1), plain(3), price(3)], [0] * 4), ("endless", [0, 1]))

    def test_any_rules(self):
        draw = random.Random(111)
        lengths = set()
        for turn in range(500):
            rules = any_rules(draw, draw.randint(1, 6), draw.choice([2, 3, 4]))
            rules = bounded(rules, -20, 20) if turn % 2 and max(brute.sizes(rule)[1] for rule in rules) < 4 else rules
            prices = [draw.randint(-30, 6) for _ in rules]
            if brute.choices(rules) <= 20000:
                self.assert_round(rules, prices, rise(rules, prices))
                lengths.add(len(last_round(rules, prices)[1]))
        self.assertEqual(lengths, set(range(7)))

    def test_great_numbers(self):
        self.assert_round(SLOW, [0, 0], [GREAT, GREAT])
        self.assert_round(scaled(CAPPED, 10 ** 28), [-10 ** 199, 0], [10 ** 30, 103 * 10 ** 28])


class TestEndless(unittest.TestCase):
    """[12]"""

    def assert_endless_round(self, rules, risers):
        told = kept(self, endless_round, rules)
        if risers == []:
            self.assertIsNone(told)
            return
        prices, order = told
        self.assertEqual((type(told), type(prices), type(order), len(prices)), (tuple, list, list, len(rules)))
        self.assertEqual(sorted(order), risers)
        for shop, number in enumerate(prices):
            self.assertTrue(number >= 10 ** 32 if shop in risers else number == 0, (shop, prices))
        later = prices
        for shop in order:
            later = behind(rules, later, [shop])
            self.assertGreater(later[shop], prices[shop], (rules, told))
        # the round can be gone again and again
        for _ in range(5):
            again = behind(rules, later, order)
            self.assertTrue(all(again[shop] > later[shop] for shop in risers))
            later = again

    def assert_endless(self, rules, risers, fallers):
        self.assertEqual(kept(self, endless, rules), (risers, fallers), rules)
        self.assert_endless_round(rules, risers)
        self.assert_endless_round(mirrors(rules), fallers)

    def test_some(self):
        self.assert_endless(BOOK, [0, 1], [])
        self.assert_endless(mirrors(BOOK), [], [0, 1])
        self.assert_endless(CAPPED, [], [])
        self.assert_endless(SLOW, [], [])
        self.assert_endless([plain(3)], [], [])
        self.assert_endless([price(0, 1)], [0], [])
        self.assert_endless([price(0, 1), price(1, -1), plain(2)], [0], [1])
        self.assert_endless([price(0, GREAT), price(1, -GREAT)], [0], [1])
        self.assert_endless([price(1), price(0)], [], [])
        self.assert_endless([price(1, 1), price(0, -1)], [], [])
        self.assert_endless([price(1, GREAT), price(0, -GREAT)], [], [])
        self.assert_endless([price(1, GREAT), price(0, 1 - GREAT)], [0, 1], [])
        self.assert_endless([price(1, GREAT - 1), price(0, -GREAT)], [], [0, 1])
        self.assert_endless([most(price(0, 1), price(0, -1))], [0], [])
        self.assert_endless([most(price(1, 1), price(2, -1)), price(0), price(0)], [0, 1, 2], [])
        self.assert_endless([rank(2, price(1, 1), price(2, 1), plain(5)), price(0, 1), price(0)], [0, 1, 2], [])
        self.assert_endless([rank(2, price(1, 1), plain(5), plain(7)), price(0, 1), price(0)], [], [])

    def test_a_shop_may_rise_and_fall(self):
        rules = [most(price(1, 1), price(0)), most(price(0, 1), least(price(1), price(2))), price(2, -1)]
        self.assert_endless(rules, [0, 1], [2])
        self.assert_endless([rank(2, price(1), price(2), price(0)), price(1, 1), price(2, -1)], [1], [2])
        self.assert_endless([rank(2, price(1), price(2), price(1, 4)), price(1, 1), price(2, -1)], [0, 1], [2])
        rules = [price(1), most(least(price(1, 1), price(2, 9)), price(3, -9)), price(2, 1), price(3, -1)]
        self.assert_endless(rules, [0, 1, 2], [3])
        rules = [price(1), most(least(price(1, 1), price(3)), price(3, -9)), price(2, 1), price(3, -1)]
        self.assert_endless(rules, [2], [0, 1, 3])

    def test_others_are_held_at_nought_in_the_round(self):
        # a follows b as long as b is not below c, which is no riser and may stand anywhere
        rules = [most(least(price(1, 3), plain(-50)), least(price(0, 1), price(1, 1))), price(0, 2), plain(-GREAT)]
        self.assert_endless(rules, [0, 1], [])
        rules = [rank(2, price(0, 1), plain(GREAT), price(1)), price(2, -GREAT), plain(-GREAT)]
        self.assert_endless(rules, [], [])

    def test_any_rules(self):
        draw = random.Random(121)
        kinds = set()
        for _ in range(600):
            rules = any_rules(draw, draw.randint(1, 6), draw.choice([2, 3, 4]))
            if max(told_choices(rules)) > 20000:
                continue
            risers, fallers = rises(rules), rises(mirrors(rules))
            kinds.add((len(risers), len(fallers)))
            self.assert_endless(rules, risers, fallers)
            # whatever the prices at the beginning
            prices = [draw.choice([-1, 1]) * 10 ** draw.randint(0, 60) for _ in rules]
            told = ends(rules, prices)
            self.assertEqual([shop for shop, pair in enumerate(told) if pair[1] is None], risers)
            self.assertEqual([shop for shop, pair in enumerate(told) if pair[0] is None], fallers)
        self.assertTrue({(many, 0) for many in range(5)} | {(0, many) for many in range(5)} | {(1, 1)} <= kinds)

    def test_great_numbers(self):
        draw = random.Random(122)
        for _ in range(150):
            rules = any_rules(draw, draw.randint(1, 6), 3)
            if max(told_choices(rules)) <= 20000:
                self.assert_endless(scaled(rules, 2 * 10 ** 29), *endless(rules))


def rises(rules):
    return [shop for shop, top in enumerate(rise(rules, [0] * len(rules))) if top is None]


class TestTime(unittest.TestCase):
    """[2]: every call returns within a few seconds."""

    def assert_quick(self, rules):
        for prices, function in itertools.product([[0] * 6, [10 ** 199, -10 ** 199] * 3], WITH_PRICES + RULES_ALONE):
            begun = time.monotonic()
            try:
                function(*([rules, prices] if function in WITH_PRICES else [rules]))
            except TooMany:
                pass
            self.assertLess(time.monotonic() - begun, 2)

    def test_at_the_bounds(self):
        heavy = read_term("rank 2(least(a, b), rank 2(a, b, c, d, e), rank 2(a, b, c, d, e, f))")
        for rules in (JUST, mirrors(JUST), BEYOND, ROWS_BEYOND, [heavy] * 6, [mirror(wide(40))] * 6,
                      [heavy, *[least(price(0, 1), plain(GREAT - shop)) for shop in range(5)]]):
            self.assert_quick(rules)

    def test_many_choices_with_unlike_adds(self):
        draw = random.Random(131)
        for _ in range(25):
            def part():
                return price(draw.randrange(6), draw.randint(-GREAT, GREAT))
            rules = [rank(k, *[part() for _ in range(6)]) for k in (2, 2, 5, 5, 3, 1)]
            while brute.choices(rules) > 20000:
                rules[draw.randrange(6)] = most(part(), part(), plain(draw.randint(-GREAT, GREAT)))
            self.assert_quick(rules)


if __name__ == "__main__":
    unittest.main()
