"""[14] and the interface, "pricespin/quiet.py"."""

import inspect
import itertools
import random
import time
import unittest

import brute
import samples
from books import BEYOND, BOOK, CAPPED, JUST, PAIR, ROWS_BEYOND, SLOW, mirrors
from brute import fall, rise
from pricespin import quiet as module
from pricespin.errors import InvalidNumber, InvalidPrices, InvalidRules, NotQuiet, TooMany
from pricespin.moves import along
from pricespin.quiet import between, is_quiet, only_quiet, quiet, sure
from samples import GREAT, any_rules, assert_raised, bounded, kept, least, level_rules, most, plain, price, rank, scaled

WITH_PRICES = (is_quiet, quiet, sure)
CHASE = [price(1), price(0)]
# Quiet prices of JUST and of BEYOND.
STAIR = [0, 0, 0, 0, 0, 1]


def moved(prices, number):
    return [price + number for price in prices]


def apart(one, other):
    return max(abs(price - end) for price, end in zip(one, other))


class TestInterface(unittest.TestCase):
    def test_functions_are_defined_here_with_these_names(self):
        names = {is_quiet: ["rules", "prices"], quiet: ["rules", "prices"], sure: ["rules", "prices"],
                 between: ["rules", "one", "other", "near"], only_quiet: ["rules"]}
        for function, arguments in names.items():
            self.assertTrue(inspect.isfunction(function))
            self.assertEqual(function.__module__, "pricespin.quiet")
            self.assertIs(getattr(module, function.__name__), function)
            self.assertEqual(list(inspect.signature(function).parameters), arguments)

    def test_arguments_by_name(self):
        self.assertIs(is_quiet(rules=[plain(2)], prices=[2]), True)
        self.assertEqual(quiet(rules=[plain(2)], prices=[1]), ([2], [2]))
        self.assertEqual(sure(rules=[plain(2)], prices=[1]), [2])
        self.assertEqual(between(rules=[price()], one=[2], other=[5], near=1), [3])
        self.assertEqual(only_quiet(rules=[plain(2)]), ("only", [2]))


class TestErrors(unittest.TestCase):
    """[2], [9], [14]: what is wrong, and which of it is told first."""

    def test_no_rules(self):
        for rules in samples.NO_RULES:
            assert_raised(self, InvalidRules, only_quiet, rules)
            for function in WITH_PRICES:
                assert_raised(self, InvalidRules, function, rules, [0])
            assert_raised(self, InvalidRules, between, rules, [0], [0], 0)
        for rules in (None, [price(1)], []):
            for function in WITH_PRICES:
                assert_raised(self, InvalidRules, function, rules, None)
            assert_raised(self, InvalidRules, between, rules, None, None, None)

    def test_no_prices(self):
        for rules in ([plain()], CHASE, [price(0)] * 6):
            right = [0] * len(rules)
            for prices in samples.no_prices(len(rules)):
                for function in WITH_PRICES:
                    assert_raised(self, InvalidPrices, function, rules, prices)
                assert_raised(self, InvalidPrices, between, rules, prices, right, 0)
                assert_raised(self, InvalidPrices, between, rules, right, prices, 0)
                # ahead of NotQuiet and of InvalidNumber
                assert_raised(self, InvalidPrices, between, rules, moved(right, 7)[:-1] + [6], prices, None)
                assert_raised(self, InvalidPrices, between, rules, prices, prices, -1)

    def test_no_prices_ahead_of_too_many(self):
        for rules in (BEYOND, ROWS_BEYOND, mirrors(BEYOND)):
            for function in WITH_PRICES:
                assert_raised(self, InvalidPrices, function, rules, [0] * 5)
            assert_raised(self, InvalidPrices, between, rules, [0] * 6, [True] + [0] * 5, 0)

    def test_not_quiet(self):
        for one, other in (([3, 3], [4, 5]), ([4, 5], [3, 3]), ([2, 2], [3, 3]), ([3, 3], [11, 11]), ([0, 0], [1, 0])):
            for near in (0, 1, -1, 99, None):
                assert_raised(self, NotQuiet, between, PAIR, one, other, near)
        assert_raised(self, NotQuiet, between, BEYOND, STAIR, [0] * 6, 0)
        assert_raised(self, NotQuiet, between, BEYOND, [0] * 6, STAIR, None)

    def test_no_number(self):
        odd = [value for value in samples.ODD_VALUES if value != 6]
        for near in [*odd, -1, 8, 10 ** 199, -10 ** 199, "1", (1,)]:
            assert_raised(self, InvalidNumber, between, PAIR, [3, 3], [10, 10], near)
            assert_raised(self, InvalidNumber, between, PAIR, [10, 10], [3, 3], near)
        for near in (1, -1, True, False, None):
            assert_raised(self, InvalidNumber, between, PAIR, [5, 5], [5, 5], near)
        # ahead of TooMany
        assert_raised(self, InvalidNumber, between, BEYOND, STAIR, STAIR, 1)
        assert_raised(self, InvalidNumber, between, ROWS_BEYOND, [0] * 6, [0] * 6, True)

    def test_too_many(self):
        for rules in (BEYOND, ROWS_BEYOND, mirrors(BEYOND), mirrors(ROWS_BEYOND)):
            for prices in ([0] * 6, STAIR, [10 ** 199, -10 ** 199] * 3):
                assert_raised(self, TooMany, quiet, rules, prices)
                assert_raised(self, TooMany, sure, rules, prices)
                self.assertIs(is_quiet(rules, prices), brute.is_quiet(rules, prices))
            assert_raised(self, TooMany, only_quiet, rules)

    def test_too_many_for_between_by_the_rules_alone(self):
        for rules, prices in ((BEYOND, STAIR), (ROWS_BEYOND, [0] * 6)):
            self.assertTrue(is_quiet(rules, prices))
            assert_raised(self, TooMany, between, rules, prices, moved(prices, 9), 4)
            assert_raised(self, TooMany, between, rules, prices, prices, 0)
            turned = [-price for price in prices]
            self.assertEqual(between(mirrors(rules), turned, moved(turned, 9), 4), moved(turned, 4))

    def test_just_so_many(self):
        self.assertEqual(quiet(JUST, STAIR), (STAIR, STAIR))
        self.assertEqual(quiet(mirrors(JUST), mirrored(STAIR)), (mirrored(STAIR), mirrored(STAIR)))
        self.assertEqual(only_quiet(JUST)[0], "two")
        self.assertEqual(between(JUST, STAIR, moved(STAIR, -9), 4), moved(STAIR, -4))


def mirrored(prices):
    return [-price for price in prices]


class TestIsQuiet(unittest.TestCase):
    def test_some(self):
        for rules, prices, told in [
                (BOOK, [0, 0], False), (CAPPED, [100, 103], True), (CAPPED, [100, 104], False),
                (CAPPED, [99, 103], False), (PAIR, [4, 4], True), (PAIR, [4, 7], False), (PAIR, [11, 11], False),
                ([price()], [10 ** 199], True), ([price(0, 1)], [4], False), ([plain(-4)], [-4], True)]:
            self.assertIs(kept(self, is_quiet, rules, prices), told, (rules, prices))

    def test_all_small_prices(self):
        draw = random.Random(141)
        found = 0
        for _ in range(60):
            rules = bounded(any_rules(draw, 2, 3, 2), -3, 3)
            for prices in brute.grid(2, 4):
                told = brute.is_quiet(rules, prices)
                self.assertIs(is_quiet(rules, prices), told)
                self.assertIs(told, all(along(rules, prices, [shop]) == [prices] for shop in (0, 1)))
                found += told
        self.assertGreater(found, 60)


class TestQuiet(unittest.TestCase):
    def assert_quiet(self, rules, prices, told):
        self.assertEqual(kept(self, quiet, rules, prices), told, (rules, prices))
        same = told[0] if told is not None and told[0] == told[1] else None
        self.assertEqual(kept(self, sure, rules, prices), same, (rules, prices))

    def test_some(self):
        self.assert_quiet(PAIR, [4, 7], ([4, 4], [7, 7]))
        self.assert_quiet(PAIR, [7, 4], ([4, 4], [7, 7]))
        self.assert_quiet(PAIR, [5, 5], ([5, 5], [5, 5]))
        self.assert_quiet(PAIR, [0, 50], ([3, 3], [10, 10]))
        self.assert_quiet(PAIR, [10, 20], ([10, 10], [10, 10]))
        self.assert_quiet(PAIR, [-9, 2], ([3, 3], [3, 3]))
        self.assert_quiet(CAPPED, [0, 0], ([100, 103], [100, 103]))
        self.assert_quiet(SLOW, [0, 0], ([GREAT, GREAT], [GREAT, GREAT]))
        self.assert_quiet([plain(3)], [10 ** 199], ([3], [3]))
        self.assert_quiet([price()], [-7], ([-7], [-7]))
        self.assert_quiet([price(1), price(2), price(0)], [5, 1, 3], ([1, 1, 1], [5, 5, 5]))

    def test_none_where_there_is_no_end(self):
        for rules in (BOOK, mirrors(BOOK), [price(0, 1)], [price(0, -1)], [plain(4), price(1, 1), price(0)],
                      [price(0, 1), price(1, -1)], [most(price(0, 1), plain(3))], [least(price(0, -1), plain(3))]):
            for prices in ([0] * len(rules), [7, -7, 7][:len(rules)], [10 ** 199] * len(rules)):
                self.assert_quiet(rules, prices, None)

    def test_all_prices_that_can_be_come_to(self):
        """By the words of [14]: every repricing is tried from everywhere."""
        draw = random.Random(142)
        kinds = {"one": 0, "more": 0, "round": 0}
        for turn in range(160):
            ring = [draw.choice([most, least])(price((shop + 1) % 3), price(draw.randrange(3), draw.choice([0, 0, 1])))
                    if draw.random() < 0.2 else price((shop + 1) % 3) for shop in range(3)]
            rules = [any_rules(draw, draw.randint(1, 3), great=2), level_rules(draw, 3, 1), ring][turn % 3]
            rules = bounded(rules, -3, 3)
            prices = [draw.randint(-4, 4) for _ in rules]
            found = brute.come_to(rules, prices)
            ends = [present for present in found if brute.is_quiet(rules, present)]
            low, high = (list(map(kind, *ends)) if len(ends) > 1 else list(ends[0]) for kind in (min, max))
            self.assertIn(tuple(low), ends)
            self.assertIn(tuple(high), ends)
            self.assertEqual(kept(self, quiet, rules, prices), (low, high), (rules, prices))
            told = brute.surely_at(rules, prices)
            self.assertEqual(kept(self, sure, rules, prices), told, (rules, prices))
            kinds["one" if len(ends) == 1 else "more"] += 1
            kinds["round"] += any(len(lot) > 1 for lot in brute.lots_that_lead_back(found, rules))
        self.assertGreater(min(kinds.values()), 10)

    def test_rules_without_bounds(self):
        draw = random.Random(143)
        found = {"none": 0, "one": 0, "more": 0}
        for turn in range(500):
            rules = any_rules(draw, draw.randint(1, 5)) if turn % 2 else level_rules(draw, draw.randint(2, 6))
            prices = [draw.randint(-12, 12) for _ in rules]
            if max(brute.choices(rules), brute.choices(mirrors(rules))) > 20000:
                continue
            highs, lows = rise(rules, prices), fall(rules, prices)
            if None in highs + lows:
                self.assert_quiet(rules, prices, None)
                found["none"] += 1
                continue
            told = (rise(rules, lows), fall(rules, highs))
            self.assert_quiet(rules, prices, told)
            self.assertTrue(brute.is_quiet(rules, told[0]) and brute.is_quiet(rules, told[1]))
            found["one" if told[0] == told[1] else "more"] += 1
        self.assertGreater(min(found.values()), 20)

    def test_great_numbers(self):
        draw = random.Random(144)
        factor = 2 * 10 ** 29
        for _ in range(120):
            rules = any_rules(draw, draw.randint(1, 5), 3)
            prices = [draw.randint(-9, 9) for _ in rules]
            if max(brute.choices(rules), brute.choices(mirrors(rules))) > 20000:
                continue
            told = quiet(rules, prices)
            great = told and tuple([number * factor for number in some] for some in told)
            self.assert_quiet(scaled(rules, factor), [number * factor for number in prices], great)
        for start in (10 ** 199, -10 ** 199, 10 ** 2500):
            self.assert_quiet(CHASE, [start, 4], tuple([kind(start, 4)] * 2 for kind in (min, max)))

    def test_new_lists_and_equal_answers(self):
        for prices in ([4, 7], [5, 5], [0, 50]):
            samples.assert_new(self, quiet(PAIR, prices), quiet, PAIR, prices)
        for rules, prices in ((PAIR, [5, 5]), (CAPPED, [0, 0]), (CAPPED, [100, 103])):
            samples.assert_new(self, sure(rules, prices), sure, rules, prices)


class TestOnlyQuiet(unittest.TestCase):
    def assert_only(self, rules, told):
        """told: "none", "two" or the only quiet prices."""
        answer = kept(self, only_quiet, rules)
        if told == "none":
            self.assertEqual(answer, ("none",))
        elif told == "two":
            word, one, other = answer
            self.assertEqual(word, "two")
            self.assertEqual([type(one), type(other)], [list, list])
            self.assertEqual([len(one), len(other)], [len(rules)] * 2)
            self.assertEqual(apart(one, other), 1, (rules, answer))
            self.assertTrue(brute.is_quiet(rules, one) and brute.is_quiet(rules, other), (rules, answer))
        else:
            self.assertEqual(answer, ("only", told), rules)

    def test_some(self):
        self.assert_only(BOOK, "none")
        self.assert_only(mirrors(BOOK), "none")
        self.assert_only([price(0, 1)], "none")
        self.assert_only([price(0, -1)], "none")
        self.assert_only([price(0, 1), price(1, -1)], "none")
        self.assert_only([price(0), price(1, 1)], "none")
        self.assert_only([most(price(0, 1), plain(3))], "none")
        self.assert_only(CAPPED, [100, 103])
        self.assert_only(SLOW, [GREAT, GREAT])
        self.assert_only([most(price(0, -1), plain(3))], [3])
        self.assert_only(PAIR, "two")
        self.assert_only([price()], "two")
        self.assert_only(CHASE, "two")
        self.assert_only([price(1, 5), price(0, -5)], "two")
        self.assert_only([least(price(0), plain(-GREAT))], "two")
        self.assert_only([most(price(0), plain(GREAT))], "two")
        # just two quiet prices at all, above or below those that are come to from 0
        for low in (-1, 0, 5, -7):
            self.assert_only([least(most(price(0), plain(low)), plain(low + 1))], "two")
            self.assert_only([least(most(price(1), plain(low)), plain(low + 1)), price(0)], "two")

    def test_neighbours_that_do_not_lie_one_above_the_other(self):
        # a rises as b falls: the quiet ones lie side by side
        rules = [least(most(price(0), plain(0)), plain(1)), least(most(price(1), plain(0)), plain(1))]
        self.assert_only(rules, "two")

    def test_all_small_prices(self):
        draw = random.Random(145)
        kinds = {"two": 0, "only": 0}
        for _ in range(250):
            shops = draw.choice([1, 2, 2, 3])
            rules = bounded(any_rules(draw, shops, 3, 2), -3, 3)
            found = [prices for prices in brute.grid(shops, 3) if brute.is_quiet(rules, prices)]
            self.assertTrue(found)
            self.assert_only(rules, found[0] if len(found) == 1 else "two")
            kinds["only" if len(found) == 1 else "two"] += 1
            # all prices come to them
            if len(found) == 1:
                start = [draw.randint(-9, 9) for _ in rules]
                self.assertEqual(sure(rules, start), found[0])
        self.assertGreater(min(kinds.values()), 30)

    def test_rules_without_bounds(self):
        draw = random.Random(146)
        kinds = {"none": 0, "two": 0, "only": 0}
        for turn in range(400):
            rules = any_rules(draw, draw.randint(1, 4)) if turn % 2 else level_rules(draw, draw.randint(1, 4))
            if max(brute.choices(rules), brute.choices(mirrors(rules))) > 20000:
                continue
            kind = kept(self, only_quiet, rules)[0]
            kinds[kind] += 1
            zeros = [0] * len(rules)
            self.assertIs(kind == "none", None in rise(rules, zeros) + fall(rules, zeros))
            if kind == "two":
                self.assert_only(rules, "two")
            elif kind == "only":
                told = only_quiet(rules)[1]
                self.assertTrue(brute.is_quiet(rules, told))
                if len(rules) < 4:
                    around = [moved_by for moved_by in brute.grid(len(rules), 1) if any(moved_by)]
                    self.assertFalse(any(brute.is_quiet(rules, [price + add for price, add in zip(told, adds)])
                                         for adds in around))
                self.assertEqual(sure(rules, zeros), told)
        self.assertGreater(min(kinds.values()), 20)

    def test_great_numbers(self):
        draw = random.Random(147)
        for _ in range(100):
            rules = any_rules(draw, draw.randint(1, 5), 3)
            if max(brute.choices(rules), brute.choices(mirrors(rules))) <= 20000:
                told = only_quiet(rules)
                great = [number * 2 * 10 ** 29 for number in told[1]] if told[0] == "only" else told[0]
                self.assert_only(scaled(rules, 2 * 10 ** 29), great)

    def test_new_lists_and_equal_answers(self):
        for rules in (BOOK, CAPPED, PAIR, [price()], CHASE):
            samples.assert_new(self, only_quiet(rules), only_quiet, rules)


class TestBetween(unittest.TestCase):
    def assert_between(self, rules, one, other):
        far = apart(one, other)
        for near in {0, 1, far // 2, far - 1, far} if far > 12 else range(far + 1):
            told = kept(self, between, rules, one, other, near)
            self.assertEqual((type(told), len(told)), (list, len(rules)))
            self.assertTrue(brute.is_quiet(rules, told), (rules, one, other, near, told))
            self.assertLessEqual(apart(told, one), near)
            self.assertLessEqual(apart(told, other), far - near)
            # the distance of the two is no less than the two distances together
            self.assertEqual((apart(told, one), apart(told, other)), (near, far - near))

    def test_some(self):
        self.assertEqual(between(PAIR, [3, 3], [10, 10], 2), [5, 5])
        self.assertEqual(between(PAIR, [10, 10], [3, 3], 2), [8, 8])
        self.assertEqual(between(PAIR, [3, 3], [10, 10], 0), [3, 3])
        self.assertEqual(between(PAIR, [3, 3], [10, 10], 7), [10, 10])
        self.assertEqual(between(PAIR, [4, 4], [4, 4], 0), [4, 4])
        self.assertEqual(between(CAPPED, [100, 103], [100, 103], 0), [100, 103])
        self.assert_between([price(0), price(1)], [0, 9], [5, -3])
        self.assert_between(CHASE, [-10 ** 199] * 2, [10 ** 199] * 2)
        self.assert_between(SLOW[1:] + [least(price(0), plain(GREAT))], [-GREAT] * 2, [GREAT] * 2)

    def test_all_small_quiet_prices(self):
        draw = random.Random(148)
        pairs = apart_in_two_ways = 0
        for _ in range(150):
            rules = bounded(level_rules(draw, draw.choice([2, 3]), 2), -3, 3)
            found = [prices for prices in brute.grid(len(rules), 3) if brute.is_quiet(rules, prices)]
            for one, other in itertools.product(draw.sample(found, min(len(found), 5)), repeat=2):
                self.assert_between(rules, one, other)
                pairs += one != other
                apart_in_two_ways += any(p < q for p, q in zip(one, other)) and any(p > q for p, q in zip(one, other))
        self.assertGreater(pairs, 300)
        self.assertGreater(apart_in_two_ways, 50)

    def test_rules_without_bounds(self):
        draw = random.Random(149)
        many = 0
        for _ in range(600):
            rules = level_rules(draw, draw.randint(2, 5))
            if max(brute.choices(rules), brute.choices(mirrors(rules))) > 20000:
                continue
            starts = [[draw.randint(-30, 30) for _ in rules] for _ in range(4)]
            some = [prices for start in starts for prices in quiet(rules, start) or []]
            for one, other in zip(some, some[1:]):
                self.assert_between(rules, one, other)
                many += apart(one, other) > 3
        self.assertGreater(many, 50)

    def test_a_walk_of_neighbours(self):
        """[3]: from quiet prices to other ones a walk of quiet ones leads, each next to the one ahead."""
        rules = [least(most(price(1), plain(-4)), plain(6)), price(0), price(2), rank(2, price(3), price(2), plain(0))]
        present, end = [-4, -4, 5, 2], [6, 6, -8, 0]
        self.assertTrue(is_quiet(rules, end))
        steps = apart(present, end)
        for _ in range(steps):
            following = between(rules, present, end, 1)
            self.assertEqual(apart(present, following), 1)
            present = following
        self.assertEqual(present, end)

    def test_new_lists_and_equal_answers(self):
        one, other = [3, 3], [10, 10]
        for near in (0, 2, 7):
            samples.assert_new(self, between(PAIR, one, other, near), between, PAIR, one, other, near)


class TestTime(unittest.TestCase):
    def test_at_the_bounds(self):
        for rules in (JUST, mirrors(JUST), BEYOND, ROWS_BEYOND):
            for prices in ([0] * 6, [10 ** 199, -10 ** 199] * 3):
                for function in WITH_PRICES:
                    begun = time.monotonic()
                    try:
                        function(rules, prices)
                    except TooMany:
                        pass
                    self.assertLess(time.monotonic() - begun, 2)
        begun = time.monotonic()
        only_quiet(JUST)
        between(JUST, STAIR, moved(STAIR, 10 ** 199), 10 ** 198)
        self.assertLess(time.monotonic() - begun, 2)


if __name__ == "__main__":
    unittest.main()
