"""[16], [17] and the interface, "pricespin/changes.py"."""

import inspect
import itertools
import random
import time
import unittest

import brute
import samples
from books import BOOK, CAPPED, FEW_MORE, LONGEST, ROWS_BEYOND, TWO_HUNDRED, mirrors, read_rules
from brute import rise, told_by_row
from pricespin import changes as module
from pricespin.changes import higher, same_tops, spare_rows, top_rows, trial_starts
from pricespin.climbs import book_of
from pricespin.errors import InvalidRules, TooMany
from pricespin.rows import rows
from samples import GREAT, any_rules, assert_raised, kept, least, level_rules, most, plain, price, rank, scaled

ONE = (top_rows, trial_starts, spare_rows)
TWO = (higher, same_tops)
EXAMPLE = [least(price(1, 5), price(2, 3)), price(2, -2), price(2)]
HEAVY = read_rules(LONGEST, "a", "b - 1", "c - 2", "d", "9")
# Each price leads to the next one with as great, or as low, an add as there can be.
UP = [plain(GREAT)] + [price(shop, GREAT) for shop in range(5)]
DOWN = [plain(-GREAT)] + [price(shop, -GREAT) for shop in range(5)]


def exceeds(one, other):
    """Whether one of the greatest prices is greater than the other one, None being above all."""
    return any(high is not None and (top is None or top > high) for top, high in zip(one, other))


def tops_of(rules, prices):
    """As rise tells, also where there are too many steps on the way."""
    return book_of(rules).tops(prices) if "0000000" in repr(rules) + repr(prices) else rise(rules, prices)


def leads_higher(one, other, prices):
    return exceeds(tops_of(one, prices), tops_of(other, prices))


def any_starts(draw, shops, many, reach=12):
    return [[draw.randint(-reach, reach) for _ in range(shops)] for _ in range(many)]


def few_choices(draw, shops, make=any_rules):
    while True:
        rules = make(draw, shops)
        if brute.choices(rules) <= 200:
            return rules


def without(rules, shop, row):
    """The rules, with the row of the shop's rule left out."""
    left = [other for other in brute.counted_rows(rules[shop])[0] if other != row]
    return rules[:shop] + [brute.term_of(left)] + rules[shop + 1:]


class TestInterface(unittest.TestCase):
    def test_functions_are_defined_here_with_these_names(self):
        for function in ONE + TWO:
            self.assertTrue(inspect.isfunction(function))
            self.assertEqual(function.__module__, "pricespin.changes")
            self.assertIs(getattr(module, function.__name__), function)
            names = list(inspect.signature(function).parameters)
            self.assertEqual(names, ["rules"] if function in ONE else ["one", "other"])

    def test_arguments_by_name(self):
        self.assertEqual(top_rows(rules=[price()]), [[(((0, 0),), ())]])
        self.assertEqual(len(trial_starts(rules=[price()])), 1)
        self.assertEqual(spare_rows(rules=[price()]), [[]])
        self.assertIsNone(higher(one=[price()], other=[price()]))
        self.assertIs(same_tops(one=[price()], other=[price(0, -1)]), True)


class TestErrors(unittest.TestCase):
    """[2], [16], [17]: what is wrong, and which of it is told first."""

    def test_no_rules(self):
        for rules in samples.NO_RULES:
            for function in ONE:
                assert_raised(self, InvalidRules, function, rules)
            for function in TWO:
                assert_raised(self, InvalidRules, function, rules, [price()])
                assert_raised(self, InvalidRules, function, [price()], rules)
                assert_raised(self, InvalidRules, function, FEW_MORE[0], rules)
                assert_raised(self, InvalidRules, function, rules, FEW_MORE[0])

    def test_not_as_many_shops(self):
        for one, other in itertools.permutations([[price()], BOOK, [plain()] * 3, [plain()] * 6], 2):
            for function in TWO:
                assert_raised(self, InvalidRules, function, one, other)
        for function in TWO:
            assert_raised(self, InvalidRules, function, FEW_MORE[0], BOOK)
            assert_raised(self, InvalidRules, function, BOOK, ROWS_BEYOND)

    def test_too_many(self):
        for rules in [*FEW_MORE, ROWS_BEYOND]:
            for function in ONE:
                assert_raised(self, TooMany, function, rules)
            for function in TWO:
                assert_raised(self, TooMany, function, rules, [plain()] * 6)
                assert_raised(self, TooMany, function, [plain()] * 6, rules)
                assert_raised(self, TooMany, function, rules, rules)
        self.assertIn(201, [brute.choices(rules) for rules in FEW_MORE])

    def test_just_so_many(self):
        self.assertEqual([brute.choices(rules) for rules in TWO_HUNDRED], [200, 200])
        self.assertEqual(brute.choices(HEAVY), 113)
        for rules in [*TWO_HUNDRED, HEAVY]:
            for function in ONE:
                self.assertIsInstance(function(rules), list)
            self.assertIsNone(higher(rules, rules))
            self.assertIs(same_tops(rules, rules), True)

    def test_the_mirrors_are_of_no_matter(self):
        self.assertGreater(brute.choices(mirrors(TWO_HUNDRED[0])), 200)
        top_rows(TWO_HUNDRED[0])
        self.assertLessEqual(brute.choices(mirrors(FEW_MORE[0])), 200)
        top_rows(mirrors(FEW_MORE[0]))
        top_rows(mirrors(ROWS_BEYOND))


class TestTopRows(unittest.TestCase):
    """[16]: top_rows."""

    def test_some(self):
        self.assertEqual(top_rows([price()]), [[(((0, 0),), ())]])
        self.assertEqual(top_rows([price(0, -4)]), [[(((0, 0),), ())]])
        self.assertEqual(top_rows([price(0, 1)]), [None])
        self.assertEqual(top_rows([plain(7)]), [[(((0, 0),), (7,))]])
        self.assertEqual(top_rows([least(price(0, 1), plain(7))]), [[(((0, 0),), (7,))]])
        self.assertEqual(top_rows([most(price(0, 1), plain(7))]), [None])
        self.assertEqual(top_rows(BOOK), [None, None])
        self.assertEqual(top_rows(CAPPED), [[(((0, 0),), (100,))], [(((0, 3), (1, 0)), (103,))]])
        self.assertEqual(top_rows([price(1, 2), price(1)]), [[(((0, 0), (1, 2)), ())], [(((1, 0),), ())]])
        self.assertEqual(top_rows([price(1, 5), price(0, -7)]),
                         [[(((0, 0), (1, 5)), ())], [(((0, -7), (1, 0)), ())]])
        self.assertEqual(top_rows([price(1, 5), price(0, -5)]),
                         [[(((0, 0), (1, 5)), ())], [(((0, -5), (1, 0)), ())]])
        self.assertEqual(top_rows([price(1, 5), price(0, -4)]), [None, None])
        self.assertEqual(top_rows([price(0, 1), price(0), plain(3)]), [None, None, [(((2, 0),), (3,))]])
        self.assertEqual(top_rows(EXAMPLE), [
            [(((0, 0), (2, 3)), ())], [(((1, 0), (2, -2)), ())], [(((2, 0),), ())]])
        self.assertEqual(top_rows([least(price(1), price(2)), price(1), price(2)])[0], [
            (((0, 0), (1, 0)), ()), (((0, 0), (2, 0)), ())])

    def test_numbers_of_any_size(self):
        self.assertEqual(top_rows(UP)[5], [(tuple((shop, (5 - shop) * GREAT) for shop in range(6)), (6 * GREAT,))])
        self.assertEqual(top_rows(DOWN)[5], [(tuple((shop, (shop - 5) * GREAT) for shop in range(6)), (-6 * GREAT,))])

    def assert_top_rows(self, rules, starts):
        found = kept(self, top_rows, rules)
        self.assertEqual((type(found), len(found)), (list, len(rules)))
        tops = [rise(rules, prices) for prices in starts]
        for shop, some in enumerate(found):
            told = [column[shop] for column in tops]
            if some is None:
                self.assertEqual(set(told), {None}, rules)
                continue
            self.assertEqual(some, sorted(set(some)))
            for row in some:
                self.assertEqual([number for number, _ in row[0]], sorted({number for number, _ in row[0]}))
                self.assertFalse(any(other != row and brute.is_above(row, other) for other in some))
            self.assertEqual([min(told_by_row(row, prices) for row in some) for prices in starts], told, (rules, shop))

    def test_any_rules(self):
        draw = random.Random(161)
        sizes, empty = set(), 0
        for turn in range(300):
            rules = few_choices(draw, draw.randint(1, 6), (any_rules, level_rules)[turn % 2])
            self.assert_top_rows(rules, any_starts(draw, len(rules), 12))
            sizes |= {len(some) for some in top_rows(rules) if some is not None}
            empty += None in top_rows(rules)
        self.assertTrue(set(range(1, 5)) <= sizes, sizes)
        self.assertGreater(empty, 30)

    def test_all_small_prices(self):
        draw = random.Random(162)
        for turn in range(60):
            rules = few_choices(draw, 2, (any_rules, level_rules)[turn % 2])
            self.assert_top_rows(rules, brute.grid(2, 7))

    def test_great_numbers(self):
        draw = random.Random(163)
        factor = 2 * 10 ** 29
        for _ in range(100):
            rules = few_choices(draw, draw.randint(2, 6))
            great = [some and [(tuple((shop, add * factor) for shop, add in adds),
                                tuple(number * factor for number in numbers)) for adds, numbers in some]
                     for some in top_rows(rules)]
            self.assertEqual(top_rows(scaled(rules, factor)), great)

    def test_many_rows_and_great_numbers(self):
        draw = random.Random(164)
        for rules in [*TWO_HUNDRED, HEAVY, UP, DOWN]:
            found = top_rows(rules)
            for prices in any_starts(draw, 6, 20) + any_starts(draw, 6, 20, 9 * GREAT):
                told = [some and min(told_by_row(row, prices) for row in some) for some in found]
                self.assertEqual(book_of(rules).tops(prices), told)

    def test_new_lists_and_equal_answers(self):
        for rules in (BOOK, CAPPED, EXAMPLE, TWO_HUNDRED[0]):
            for function in ONE:
                samples.assert_new(self, function(rules), function, rules)


class TestTrialStarts(unittest.TestCase):
    """[16]: trial_starts."""

    def assert_trial(self, rules, others, starts):
        """Every list of others leads higher from one of the trial starts, if it does from any of the starts."""
        trials = kept(self, trial_starts, rules)
        self.assertEqual(type(trials), list)
        for prices in trials:
            self.assertEqual((type(prices), len(prices)), (list, len(rules)))
            self.assertTrue(all(type(number) is int for number in prices))
        found = 0
        for other in others:
            told = any(leads_higher(other, rules, prices) for prices in trials)
            if not told:
                self.assertFalse(any(leads_higher(other, rules, prices) for prices in starts), (rules, other))
            found += told
            if brute.choices(other) <= 200:
                self.assertIs(told, higher(other, rules) is not None, (rules, other))
        return found

    def test_some(self):
        self.assertEqual(trial_starts(BOOK), [])
        self.assertEqual(trial_starts([price(0, 1)]), [])
        self.assertGreater(len(trial_starts([price()])), 0)
        self.assertGreater(len(trial_starts([price(0, 1), price(1)])), 0)
        self.assertEqual(self.assert_trial([price(0, 1)], [[price(0, 1)], [plain(GREAT)], [price()]], [[0]]), 0)
        others = [[price(0, 1)], [plain(GREAT)], [plain(-GREAT)], [price()], [price(0, -1)],
                  [least(price(0, 1), plain(4))]]
        self.assertEqual(self.assert_trial([price()], others, [[0], [-9]]), 4)
        self.assertEqual(self.assert_trial([plain(4)], others, [[0], [9]]), 2)
        self.assertEqual(self.assert_trial([plain(-GREAT)], others, [[0], [-9]]), 3)
        self.assertEqual(self.assert_trial([plain(GREAT)], others, [[0], [-9]]), 1)

    def test_any_rules(self):
        draw = random.Random(165)
        found = 0
        for turn in range(40):
            shops = draw.randint(1, 4)
            make = (any_rules, level_rules)[turn % 2]
            rules = few_choices(draw, shops, make)
            others = [make(draw, shops) for _ in range(12)]
            for shop in range(shops):
                others += [rules[:shop] + [least(rules[shop], make(draw, shops)[shop])] + rules[shop + 1:]]
                others += [rules[:shop] + [most(rules[shop], make(draw, shops)[shop])] + rules[shop + 1:]]
            others = [other for other in others if all(map(brute.is_term, other))]
            many = self.assert_trial(rules, others, any_starts(draw, shops, 12))
            found += 0 < many < len(others)
        self.assertGreater(found, 25)

    def test_others_that_lead_higher_by_a_little_or_from_afar(self):
        draw = random.Random(166)
        bounds = [-GREAT, 1 - GREAT, 0, GREAT - 1, GREAT]
        for rules in ([price(0), price(0)], [price(1), plain(3)], [price(0), least(price(0, 5), plain(GREAT))],
                      [plain(-GREAT), price(0, -GREAT)], [plain(GREAT), price(0, GREAT)],
                      [least(price(0), price(1)), price(1)], [most(price(1, -GREAT), plain(-GREAT)), price(1)]):
            others = [[one, other] for one in (price(0), price(1, -5), rules[0])
                      for other in [price(0, add) for add in bounds] + [plain(number) for number in bounds]]
            others += [[most(rules[0], other[1]), rules[1]] for other in others]
            self.assert_trial(rules, others, any_starts(draw, 2, 5) + any_starts(draw, 2, 10, 5 * GREAT))

    def test_ways_as_long_as_can_be(self):
        """Numbers and adds come together up to six times as great, below and above what the rules tell."""
        for rules, other in itertools.permutations([UP, DOWN, [price(shop) for shop in range(6)],
                                                    [plain(-GREAT)] * 6, [price(5)] * 6], 2):
            starts = [[0] * 6, [10 ** 40] * 6, [-10 ** 40] * 6]
            starts += [[high] * shop + [-high] * (6 - shop) for shop in range(6) for high in (10 ** 40, -10 ** 40)]
            self.assert_trial(rules, [other, other[:5] + rules[5:], rules[:5] + other[5:]], starts)
        # just one less is never told by the other rules, and just one more is
        for shop in range(1, 6):
            lower = UP[:shop] + [price(shop - 1, GREAT - 1)] + UP[shop + 1:]
            self.assertEqual(self.assert_trial(UP, [lower], []), 0)
            self.assertEqual(self.assert_trial(lower, [UP], []), 1)
            upper = DOWN[:shop] + [price(shop - 1, 1 - GREAT)] + DOWN[shop + 1:]
            self.assertEqual(self.assert_trial(DOWN, [upper], []), 1)
            self.assertEqual(self.assert_trial(upper, [DOWN], []), 0)
        # a number of the others that only counts where all prices are low
        for number in (-GREAT, 0, GREAT):
            own = [price(0), price(1), price(2), price(3), price(4), price(5)]
            led = [plain(number)] + [price(shop, -GREAT) for shop in range(5)]
            self.assertEqual(self.assert_trial(own, [led[:1] + own[1:], own[:5] + led[5:], led], []), 3)


class TestHigher(unittest.TestCase):
    """[16]: higher, same_tops."""

    def assert_held(self, one, other, starts):
        told = kept(self, higher, one, other)
        if told is None:
            self.assertFalse(any(leads_higher(one, other, prices) for prices in starts), (one, other))
        else:
            self.assertEqual((type(told), len(told)), (list, len(one)))
            self.assertTrue(all(type(number) is int for number in told))
            self.assertTrue(leads_higher(one, other, told), (one, other, told))
        back = higher(other, one)
        self.assertIs(kept(self, same_tops, one, other), told is None and back is None)
        return told is None

    def test_some(self):
        for one, other, below in [
                (BOOK, BOOK, True), (CAPPED, BOOK, True), (BOOK, CAPPED, False), (CAPPED, CAPPED, True),
                ([price()], [price(0, -3)], True), ([price(0, -3)], [price()], True), ([plain(3)], [price()], False),
                ([plain(3)], [plain(4)], True), ([plain(4)], [plain(3)], False), ([price(0, 1)], [price(0, 9)], True),
                ([most(price(0, 1), plain(3))], [price(0, 1)], True), ([price(0, 1)], [plain(GREAT)], False),
                (EXAMPLE, [price(2, 3)] + EXAMPLE[1:], True), ([price(2, 3)] + EXAMPLE[1:], EXAMPLE, True),
                (EXAMPLE, [price(1, 5)] + EXAMPLE[1:], True), ([price(1, 5)] + EXAMPLE[1:], EXAMPLE, False),
                ([price(1), price(1)], [price(1), price(0)], True), ([price(1), price(0)], [price(1), price(1)], False),
                (UP, DOWN, False), (DOWN, UP, True)]:
            self.assertIs(self.assert_held(one, other, [[0] * len(one)]), below, (one, other))
        self.assertIs(same_tops(EXAMPLE, [price(2, 3)] + EXAMPLE[1:]), True)
        self.assertIs(same_tops(EXAMPLE, [price(1, 5)] + EXAMPLE[1:]), False)
        self.assertIs(same_tops(BOOK, [price(0, 1), price(0)]), True)

    def test_any_rules(self):
        draw = random.Random(167)
        kinds = {True: 0, False: 0}
        alike = 0
        for turn in range(300):
            shops = draw.randint(1, 4)
            make = (any_rules, level_rules)[turn % 2]
            one = few_choices(draw, shops, make)
            other = few_choices(draw, shops, make)
            if turn % 3:
                shop = draw.randrange(shops)
                changed = draw.choice([least, most])(one[shop], price(shop, -draw.randrange(2)))
                other = one[:shop] + [changed] + one[shop + 1:]
            if brute.choices(other) > 200 or not all(map(brute.is_term, other)):
                continue
            starts = any_starts(draw, shops, 10)
            kinds[self.assert_held(one, other, starts)] += 1
            kinds[self.assert_held(other, one, starts)] += 1
            alike += same_tops(one, other)
        self.assertGreater(min(kinds.values()), 60)
        self.assertGreater(alike, 30)

    def test_all_small_prices(self):
        draw = random.Random(168)
        for turn in range(80):
            make = (any_rules, level_rules)[turn % 2]
            self.assert_held(few_choices(draw, 2, make), few_choices(draw, 2, make), brute.grid(2, 6))

    def test_many_rows(self):
        draw = random.Random(169)
        for one, other in itertools.permutations([*TWO_HUNDRED, HEAVY, UP, DOWN], 2):
            self.assert_held(one, other, any_starts(draw, 6, 3))

    def test_new_lists_and_equal_answers(self):
        for one, other in ((BOOK, CAPPED), (UP, DOWN), (TWO_HUNDRED[0], TWO_HUNDRED[1])):
            samples.assert_new(self, higher(one, other), higher, one, other)


class TestSpareRows(unittest.TestCase):
    """[17]"""

    def test_some(self):
        self.assertEqual(spare_rows(EXAMPLE), [[(((1, 5),), ())], [], []])
        self.assertEqual(spare_rows([price()]), [[]])
        self.assertEqual(spare_rows([plain(3), plain(3)]), [[], []])
        # a row that is the only one cannot be left out, though it changes nothing
        self.assertEqual(spare_rows([price(0, -1), price(1)]), [[], []])
        self.assertEqual(spare_rows(BOOK), [[], []])
        self.assertEqual(spare_rows([least(price(0, -1), plain(5))]), [[((), (5,))]])
        # each alone, though not both
        self.assertEqual(spare_rows([least(price(1), price(2)), price(2), price(1)]),
                         [[(((1, 0),), ()), (((2, 0),), ())], [], []])
        # without the cap there is no end
        self.assertEqual(spare_rows([least(price(1, 5), plain(100)), price(0, 3)]), [[(((1, 5),), ())], []])
        self.assertEqual(spare_rows([least(price(1, 5), plain(100)), price(1)]), [[], []])
        # who rises without end anyway needs none of its rows
        rules = [least(price(0, 1), price(1, 1)), price(0)]
        self.assertEqual(spare_rows(rules), [rows(rules[0]), []])
        rules = [least(price(0, 1), price(1, 1)), price(1)]
        self.assertEqual(spare_rows(rules), [[(((0, 1),), ())], []])
        self.assertEqual(spare_rows([least(price(0), price(1)), price(1)]), [[(((1, 0),), ())], []])

    def assert_spare(self, rules, starts):
        found = kept(self, spare_rows, rules)
        self.assertEqual((type(found), len(found)), (list, len(rules)))
        many = [0, 0]
        for shop, some in enumerate(found):
            own = brute.counted_rows(rules[shop])[0]
            self.assertEqual(some, sorted(set(some)))
            self.assertTrue(set(some) <= set(own))
            for row in own:
                if len(own) == 1:
                    self.assertNotIn(row, some)
                    continue
                left = without(rules, shop, row)
                if not brute.is_term(left[shop]):
                    continue
                same = top_rows(left) == top_rows(rules)
                self.assertIs(row in some, same, (rules, shop, row))
                if same:
                    for prices in starts:
                        self.assertEqual(rise(left, prices), rise(rules, prices))
                many[same] += 1
        return many

    def test_any_rules(self):
        draw = random.Random(170)
        spare = needed = 0
        for turn in range(250):
            rules = few_choices(draw, draw.randint(1, 5), (any_rules, level_rules)[turn % 2])
            counts = self.assert_spare(rules, any_starts(draw, len(rules), 5))
            needed += counts[0]
            spare += counts[1]
        self.assertGreater(min(spare, needed), 100)

    def test_rows_that_are_needed_change_a_price(self):
        draw = random.Random(171)
        many = 0
        for turn in range(150):
            rules = few_choices(draw, 2, (any_rules, level_rules)[turn % 2])
            found = spare_rows(rules)
            for shop in (0, 1):
                for row in rows(rules[shop]):
                    if len(rows(rules[shop])) > 1 and row not in found[shop]:
                        left = without(rules, shop, row)
                        self.assertTrue(any(rise(left, prices) != rise(rules, prices) for prices in brute.grid(2, 11)),
                                        (rules, shop, row))
                        many += 1
        self.assertGreater(many, 40)

    def test_many_rows(self):
        for rules in TWO_HUNDRED:
            self.assert_spare(rules, [])


class TestTime(unittest.TestCase):
    """[2]: every call returns within a few seconds, also at the bounds of [16]."""

    def test_at_the_bounds(self):
        draw = random.Random(172)

        def part():
            return price(draw.randrange(6), draw.randint(-GREAT, GREAT))

        many = [*TWO_HUNDRED, HEAVY, *FEW_MORE, ROWS_BEYOND, HEAVY[:1] + [price(shop) for shop in range(1, 6)]]
        for _ in range(10):
            rules = [rank(3, *[part() for _ in range(6)]), rank(2, *[part() for _ in range(5)])]
            many.append(rules + [most(part(), part(), plain(draw.randint(-GREAT, GREAT))) for _ in range(4)])
        for rules in many:
            for function in ONE + TWO:
                begun = time.monotonic()
                try:
                    function(*[rules] * (1 if function in ONE else 2))
                except TooMany:
                    pass
                self.assertLess(time.monotonic() - begun, 2)


if __name__ == "__main__":
    unittest.main()
