"""[7], [8] and the interface, "pricespin/rows.py"."""

import copy
import inspect
import itertools
import random
import time
import unittest

import brute
import samples
from brute import expected
from pricespin import rows as module
from pricespin.errors import InvalidTerm, TooMany
from pricespin.rows import alike, matters, never_above, parting, rows, tests
from pricespin.terms import mirror
from pricespin.texts import read_term
from samples import GREAT, any_right_term, assert_raised, kept, least, most, nested, plain, price, rank, wide

ONE = (rows, matters, tests)
TWO = (never_above, alike, parting)

# Texts of terms, and the greatest count at a term in them, up to 200 and beyond.
COUNTED = [
    ("a", 1), ("-7", 1), ("least(a, b, 3)", 3), ("most(a, b, 3)", 1), ("most(least(a, b), least(c, d), e)", 4),
    ("rank 1(a, b, c, d, e, f)", 6), ("rank 2(a, b, c, d, e, f)", 15), ("rank 3(a, b, c, d, e, f)", 20),
    ("rank 6(a, b, c, d, e, f)", 1), ("rank 2(least(a, b), least(c, d, e), f)", 11),
    # each part counts as many as its rows are, not as those that they come of
    ("most(least(a, a + 1, a + 2, a, a, a), least(b, b + 1, b + 2, b, b, b), least(c, c + 3), least(d, e))", 6),
    ("most(most(least(a, b), least(a, b)), least(c, d))", 4),
    # products of just 200 and beyond
    ("most(rank 3(a, b, c, d, e, f), rank 2(a, b, c, d, e))", 200),
    ("most(rank 3(a, b, c, d, e, f), least(rank 2(a, b, c, d, e), f))", 220),
    ("most(rank 2(a, b, c, d, e, 0), least(rank 2(a, b, c, d), least(a, b, c, d, e), f - 1))", 90),
    ("most(least(least(a, b, c, d, e), f, 1), least(a, b, c, d, e), least(a, b, c, d, e, f))", 210),
    ("most(least(a, b, c, d, e), least(a, b, c, d, e, f), least(a, b, c, d, e, f))", 180),
    # products of each lot of k
    ("rank 2(least(a, b), rank 2(a, b, c, d, e), rank 2(a, b, c, d, e, f))", 200),
    ("rank 2(a, b, rank 2(a, b, c, d, e), rank 2(a, b, c, d, e, f))", 201),
    # counts that are added
    ("least(rank 4(f - 1, b - 4, rank 1(f + 3, rank 1(3, e + 4, c + 4, b - 1, a + 3)), a - 4, 1, rank 2(d + 4, c + 3, "
     "e - 2, e + 1)), rank 2(rank 3(rank 1(a - 3, c - 1, a - 3), rank 1(f - 1, f, b + 2), e, 0, e - 3), 2, "
     "rank 3(c - 2, d + 2, f - 3, b - 2, a - 4)))", 200),
    ("least(rank 2(rank 3(d + 3, rank 1(f + 2, b + 4), 0, a - 3, e - 3), e - 1, rank 2(d + 4, a + 2, rank 1(b - 1, "
     "c - 4), f - 1)), rank 2(4, e + 2, rank 2(c + 1, a - 3, f + 2, d + 4, c), rank 4(d + 3, -1, a - 4, a, e - 2), "
     "rank 4(b - 3, e + 1, b - 4, d, 1, f - 4)))", 201),
    # at a term within, though the whole has one row
    ("least(-9, most(-9, most(rank 3(a, b, c, d, e, f), least(rank 2(a, b, c, d, e), f))))", 220),
    ("most(most(rank 2(a, b, rank 2(a, b, c, d, e), rank 2(a, b, c, d, e, f))))", 201),
]
FEW = [read_term(text) for text, count in COUNTED if count <= 200]
MANY = [read_term(text) for text, count in COUNTED if count > 200]


def grid(shops, reach):
    return [list(prices) for prices in itertools.product(range(-reach, reach + 1), repeat=shops)]


def small_terms(many, shops, seed, great=2):
    draw = random.Random(seed)
    return [any_right_term(draw, 4, shops, great) for _ in range(many)]


def any_prices(draw):
    reach = draw.choice([2, 8, 10 ** 32])
    return [draw.randint(-reach, reach) for _ in range(6)]


class TestInterface(unittest.TestCase):
    def test_functions_are_defined_here_with_these_names(self):
        for function in ONE + TWO:
            self.assertTrue(inspect.isfunction(function))
            self.assertEqual(function.__module__, "pricespin.rows")
            self.assertIs(getattr(module, function.__name__), function)
            names = list(inspect.signature(function).parameters)
            self.assertEqual(names, ["term"] if function in ONE else ["one", "other"])

    def test_arguments_by_name(self):
        self.assertEqual(rows(term=price(1)), [(((1, 0),), ())])
        self.assertIs(never_above(one=plain(1), other=plain(2)), True)
        self.assertIs(alike(one=plain(1), other=plain(2)), False)
        self.assertEqual(len(parting(one=plain(1), other=plain(2))), 1)
        self.assertEqual(matters(term=price(1)), [1])
        self.assertEqual(len(tests(term=price(1))), 1)


class TestErrors(unittest.TestCase):
    """[2], [4], [7], [8]: what is no term, and what has too many rows."""

    def test_no_term(self):
        for value in samples.NO_TERMS:
            for function in ONE:
                assert_raised(self, InvalidTerm, function, value)
            for function in TWO:
                assert_raised(self, InvalidTerm, function, value, price())
                assert_raised(self, InvalidTerm, function, price(), value)
                assert_raised(self, InvalidTerm, function, value, value)

    def test_too_many_for_the_one_or_the_other(self):
        for term in MANY:
            for function in ONE:
                assert_raised(self, TooMany, function, term)
            for function in TWO:
                assert_raised(self, TooMany, function, term, price())
                assert_raised(self, TooMany, function, plain(), term)
                assert_raised(self, TooMany, function, term, term)

    def test_no_term_ahead_of_too_many(self):
        for function in TWO:
            for value in (None, price(6), ["price", 0, 0], nested(7)):
                assert_raised(self, InvalidTerm, function, MANY[0], value)
                assert_raised(self, InvalidTerm, function, value, MANY[0])

    def test_just_so_many(self):
        self.assertIn(200, [count for _, count in COUNTED])
        self.assertIn(201, [count for _, count in COUNTED])
        for text, count in COUNTED:
            self.assertEqual(brute.counted_rows(read_term(text))[1], count, text)
        for term in FEW:
            for function in ONE:
                self.assertIsInstance(function(term), list)
            self.assertTrue(never_above(term, price()) in (True, False))
            self.assertTrue(alike(price(), term) in (True, False))
            parting(term, plain())

    def test_counts_of_any_terms(self):
        draw = random.Random(71)
        beyond = 0
        for _ in range(250):
            parts = [any_right_term(draw, 3) for _ in range(3)]
            inner = [rank(draw.randint(2, 4), *[price(shop, draw.randint(-9, 9)) for shop in range(5)]) for _ in "ab"]
            term = rank(draw.randint(1, 3), *inner, least(*parts))
            count = brute.counted_rows(term)[1]
            if not brute.is_term(term):
                continue
            if count > 200:
                beyond += 1
                self.assertRaises(TooMany, rows, term)
            else:
                self.assertEqual(rows(term), brute.counted_rows(term)[0])
        self.assertGreater(beyond, 20)


class TestRows(unittest.TestCase):
    """[7]"""

    def test_each_kind(self):
        self.assertEqual(rows(price(3, -4)), [(((3, -4),), ())])
        self.assertEqual(rows(plain(-4)), [((), (-4,))])
        self.assertEqual(rows(price(5, -GREAT)), [(((5, -GREAT),), ())])
        self.assertEqual(rows(least(price(1), price(0), plain(2))), [((), (2,)), (((0, 0),), ()), (((1, 0),), ())])
        self.assertEqual(rows(most(price(1), price(0), plain(2))), [(((0, 0), (1, 0)), (2,))])
        self.assertEqual(rows(rank(2, price(2), price(1), price(0))), [
            (((0, 0), (1, 0)), ()), (((0, 0), (2, 0)), ()), (((1, 0), (2, 0)), ())])

    def test_one_shop_with_unlike_adds(self):
        self.assertEqual(rows(least(price(0, 2), price(0, 1), price(0, 3))), [(((0, 1),), ())])
        self.assertEqual(rows(most(price(0, 2), price(0, 3), price(0, 1))), [(((0, 3),), ())])
        self.assertEqual(rows(rank(2, price(0, 2), price(0, 3), price(0, 1))), [(((0, 2),), ())])
        self.assertEqual(rows(rank(2, plain(2), plain(3), plain(1))), [((), (2,))])

    def test_which_lies_above(self):
        # as high, with more shops, with a number
        self.assertEqual(rows(least(price(0), most(price(0), price(1)))), [(((0, 0),), ())])
        self.assertEqual(rows(least(price(0), most(price(0, 1), price(1)))), [(((0, 0),), ())])
        self.assertEqual(rows(least(price(0), most(price(0), plain(1)))), [(((0, 0),), ())])
        self.assertEqual(rows(least(plain(3), most(price(0), plain(3)))), [((), (3,))])
        # not above: a lower add, a lower number, no number
        self.assertEqual(len(rows(least(price(0), most(price(0, -1), price(1))))), 2)
        self.assertEqual(len(rows(least(plain(3), most(price(0), plain(2))))), 2)
        self.assertEqual(len(rows(least(most(price(0), plain(3)), price(0, 1)))), 2)
        self.assertEqual(len(rows(least(most(price(0), plain(3)), most(price(0, 1), plain(2))))), 2)

    def test_ascending_as_python_has_it(self):
        term = least(price(1, -1), plain(5), most(price(0, 3), plain(2)), most(price(0, 3), price(2)), price(0, 4))
        expected_rows = [((), (5,)), (((0, 3),), (2,)), (((0, 3), (2, 0)), ()), (((0, 4),), ()), (((1, -1),), ())]
        self.assertEqual(rows(term), expected_rows)
        self.assertEqual(expected_rows, sorted(expected_rows))

    def test_terms_without_a_shop_have_one_row(self):
        draw = random.Random(72)
        for _ in range(60):
            parts = [plain(draw.randint(-5, 5)) for _ in range(5)]
            term = rank(2, least(*parts[:2]), most(*parts[2:]), plain(-1))
            self.assertEqual(rows(term), [((), (expected(term, [0]),))])

    def test_six_shops_and_forty_terms(self):
        self.assertEqual(len(rows(rank(3, *[price(shop) for shop in range(6)]))), 20)
        forty = mirror(wide(40))
        self.assertEqual(brute.sizes(forty)[0], 40)
        self.assertEqual(rows(forty), brute.counted_rows(forty)[0])
        self.assertEqual(rows(nested(6)), [(((0, 0),), ())])

    def assert_rows(self, term, prices):
        """That these are rows, none above another one, and the least of them is what the term tells."""
        found = kept(self, rows, term)
        self.assertEqual(found, sorted(found))
        for row in found:
            adds, number = row
            self.assertEqual((type(row), type(adds), type(number)), (tuple, tuple, tuple))
            self.assertEqual([shop for shop, _ in adds], sorted({shop for shop, _ in adds}))
            self.assertTrue(0 < len(adds) + len(number) and len(number) <= 1)
            self.assertFalse(any(other != row and brute.is_above(row, other) for other in found))
        self.assertEqual(len(set(found)), len(found))
        for present in prices:
            told = min(brute.told_by_row(row, present) for row in found)
            self.assertEqual(told, expected(term, present), (term, present))

    def test_of_any_terms(self):
        draw = random.Random(73)
        for term in small_terms(250, 3, 73) + small_terms(150, 6, 74, 10 ** 30):
            if brute.counted_rows(term)[1] <= 200:
                self.assert_rows(term, [any_prices(draw) for _ in range(20)])
        for term in small_terms(40, 2, 75):
            self.assert_rows(term, grid(2, 6))

    def test_of_terms_with_many_rows(self):
        draw = random.Random(76)
        for term in FEW:
            self.assert_rows(term, [any_prices(draw) for _ in range(30)])

    def test_alike_terms_have_the_same_rows(self):
        a, b, c = price(0), price(1), price(2)
        self.assertEqual(rows(most(least(a, b), least(a, c))), rows(least(a, most(b, c))))
        self.assertEqual(rows(rank(2, a, b, c)), rows(most(least(a, b), least(a, c), least(b, c))))
        self.assertEqual(rows(rank(2, a, b, c)), rows(least(most(a, b), most(a, c), most(b, c))))

    def test_new_lists_and_equal_answers(self):
        for term in FEW:
            samples.assert_new(self, rows(copy.deepcopy(term)), rows, term)
            samples.assert_new(self, tests(copy.deepcopy(term)), tests, term)
            samples.assert_new(self, matters(copy.deepcopy(term)), matters, term)


class TestHeldAgainst(unittest.TestCase):
    """[8]: never_above, alike, parting."""

    def test_of_each_kind(self):
        a, b = price(0), price(1)
        for one, other, below, same in [
                (a, a, True, True), (a, price(0, 1), True, False), (price(0, 1), a, False, False), (a, b, False, False),
                (a, plain(0), False, False), (plain(0), a, False, False), (plain(0), plain(0), True, True),
                (plain(-1), plain(0), True, False), (plain(0), plain(-1), False, False),
                (least(a, b), a, True, False), (a, least(a, b), False, False), (a, most(a, plain(7)), True, False),
                (most(a, plain(7)), a, False, False), (least(a, b), most(a, b), True, False),
                (least(a, most(a, b)), a, True, True), (a, most(a, least(a, b)), True, True),
                (rank(1, a, b), least(b, a), True, True), (rank(2, a, b, price(2)), most(a, b), True, False)]:
            self.assertIs(kept(self, never_above, one, other), below, (one, other))
            self.assertIs(kept(self, alike, one, other), same, (one, other))
            self.assertEqual(kept(self, parting, one, other) is None, same, (one, other))

    def test_numbers_at_their_bounds(self):
        for one, other in [
                (plain(GREAT), plain(GREAT - 1)), (plain(-GREAT), plain(-GREAT + 1)), (price(0, GREAT), plain(GREAT)),
                (price(0, -GREAT), plain(-GREAT)), (price(0, -GREAT), plain(GREAT)), (price(0, GREAT), plain(-GREAT)),
                (price(0, -GREAT), price(1, GREAT)), (price(0, GREAT), price(0, GREAT - 1)),
                (most(price(0, -GREAT), plain(-GREAT)), price(0, -GREAT)),
                (least(price(0, GREAT), plain(GREAT)), price(0, GREAT)),
                (least(price(0, -GREAT), plain(GREAT)), price(0, -GREAT)),
                (most(price(0, GREAT), plain(-GREAT)), price(0, GREAT)),
                (least(price(0, -GREAT), price(1, GREAT)), price(0, -GREAT)),
                (least(price(0, GREAT), most(price(1, -GREAT), plain(GREAT))), price(0, GREAT))]:
            for first, second in ((one, other), (other, one)):
                self.assertFalse(alike(first, second))
                self.assert_parted(first, second)

    def assert_parted(self, one, other):
        prices = parting(one, other)
        self.assertNotEqual(expected(one, prices), expected(other, prices), (one, other, prices))
        return prices

    def test_how_many_prices_part(self):
        for one, other, many in [
                (plain(0), plain(1), 1), (least(plain(0)), most(plain(1), plain(0)), 1), (price(0), plain(1), 1),
                (price(0), price(1), 2), (price(5), plain(1), 6), (plain(1), price(4), 5), (price(2), price(2, 1), 3),
                # shops count that stand there, also if nothing hangs on their prices
                (most(price(0), least(price(0), price(3))), price(1), 4),
                (plain(1), most(plain(2), least(plain(1), price(5))), 6)]:
            self.assertEqual(len(self.assert_parted(one, other)), many)
            self.assertEqual(len(self.assert_parted(other, one)), many)
        self.assertIsNone(parting(plain(1), most(plain(1), least(plain(1), price(5)))))

    def test_as_all_prices_of_a_small_grid_say(self):
        terms = small_terms(45, 2, 81)
        prices = grid(2, 6)
        told = [[expected(term, present) for present in prices] for term in terms]
        found = {True: 0, False: 0}
        for (one, one_told), (other, other_told) in itertools.product(zip(terms, told), repeat=2):
            below = all(low <= high for low, high in zip(one_told, other_told))
            found[below] += 1
            self.assertIs(never_above(one, other), below, (one, other))
            self.assertIs(alike(one, other), one_told == other_told, (one, other))
            if one_told == other_told:
                self.assertIsNone(parting(one, other))
            else:
                shops = len(self.assert_parted(one, other))
                self.assertEqual(shops, 2 if "'price', 1," in repr((one, other)) else 1)
        self.assertGreater(min(found.values()), 100)

    def test_any_terms_of_six_shops(self):
        draw = random.Random(82)
        terms = small_terms(40, 6, 82) + small_terms(10, 6, 83, GREAT) + [mirror(wide(40)), nested(6)]
        terms = [term for term in terms if brute.counted_rows(term)[1] <= 200]
        prices = [any_prices(draw) for _ in range(60)]
        for one, other in itertools.product(terms, repeat=2):
            told = [(expected(one, present), expected(other, present)) for present in prices]
            if never_above(one, other):
                self.assertTrue(all(low <= high for low, high in told))
            if alike(one, other):
                self.assertTrue(all(low == high for low, high in told))
                self.assertIsNone(parting(one, other))
            else:
                self.assert_parted(one, other)
            self.assertIs(alike(one, other), never_above(one, other) and never_above(other, one))

    def test_new_lists_and_equal_answers(self):
        for one, other in itertools.permutations(FEW[:12], 2):
            samples.assert_new(self, parting(one, other), parting, one, other)


class TestMatters(unittest.TestCase):
    """[8]: matters."""

    def test_of_each_kind(self):
        a, b, c = price(0), price(1), price(2)
        for term, shops in [
                (price(4, 1), [4]), (plain(1), []), (least(plain(1), plain(2)), []), (least(c, a), [0, 2]),
                (most(b, c, a, c), [0, 1, 2]), (least(a, most(a, b)), [0]), (most(a, least(a, b), plain(1)), [0]),
                (rank(2, a, b, c), [0, 1, 2]), (rank(2, a, a, b), [0]), (rank(2, a, plain(1), plain(1)), []),
                (least(plain(0), most(plain(0), price(5))), []), (most(a, price(0, 1), least(price(0, 1), c)), [0]),
                (least(price(5), most(price(5, -1), price(3))), [3, 5])]:
            self.assertEqual(kept(self, matters, term), shops, term)

    def test_as_all_prices_of_a_small_grid_say(self):
        fewer = 0
        for many, reach, terms in ((2, 7, small_terms(80, 2, 84)), (3, 5, small_terms(30, 3, 85, 1))):
            for term in terms:
                told = {tuple(present): expected(term, present) for present in grid(many, reach)}
                shops = [shop for shop in range(many) if any(
                    told[present] != told[present[:shop] + (reach,) + present[shop + 1:]] for present in told)]
                fewer += [shop for shop in range(many) if f"'price', {shop}," in repr(term)] != shops
                self.assertEqual(matters(term), shops, term)
        self.assertGreater(fewer, 3)


class TestTests(unittest.TestCase):
    """[8]: tests."""

    def assert_tests(self, term, others):
        found = kept(self, tests, term)
        lines = rows(term)
        self.assertEqual(len(found), len(lines))
        for at, prices in enumerate(found):
            self.assertEqual((type(prices), len(prices)), (list, 6))
            self.assertTrue(all(type(number) is int for number in prices))
            own = brute.told_by_row(lines[at], prices)
            for row in lines[:at] + lines[at + 1:]:
                self.assertLess(own, brute.told_by_row(row, prices))
        for other in others:
            passed = all(expected(other, prices) <= expected(term, prices) for prices in found)
            self.assertIs(never_above(other, term), passed, (term, other))

    def test_of_each_kind(self):
        self.assertEqual(len(tests(price(3))), 1)
        self.assertEqual(len(tests(plain(3))), 1)
        self.assertEqual(len(tests(least(price(0), price(1), plain(2)))), 3)
        self.assertEqual(len(tests(rank(3, *[price(shop) for shop in range(6)]))), 20)

    def test_any_other_term_is_held_against_it(self):
        draw = random.Random(86)
        terms = small_terms(60, 2, 86) + small_terms(30, 6, 87) + [price(0, GREAT), price(0, -GREAT), plain(GREAT)]
        terms += [term for term in small_terms(30, 6, 88, GREAT) + [plain(-GREAT), nested(6)]]
        terms = [term for term in terms if brute.counted_rows(term)[1] <= 200]
        for term in terms:
            others = draw.sample(terms, 50)
            # those that are above it just by one row, and those that are not
            for row in rows(term):
                shops = [price(shop, add) for shop, add in row[0]]
                numbers = [plain(number) for number in row[1]]
                parts = shops + numbers
                others += [most(*parts[:at], *parts[at + 1:]) for at in range(len(parts)) if len(parts) > 1]
                others += [most(*parts[-6:]), most(*shops, plain(-GREAT)) if len(shops) < 6 else price()]
                others += [price(shop, min(add + 1, GREAT)) for shop, add in row[0]]
            self.assert_tests(term, [other for other in others if brute.is_term(other)])

    def test_numbers_at_their_bounds(self):
        bounds = [-GREAT, -GREAT + 1, 0, GREAT - 1, GREAT]
        leaves = [price(shop, add) for shop in (0, 5) for add in bounds] + [plain(number) for number in bounds]
        pairs = list(itertools.combinations(leaves, 2))
        terms = leaves + [kind(*pair) for kind in (least, most) for pair in pairs]
        draw = random.Random(89)
        for term in leaves + draw.sample(terms, 40):
            self.assert_tests(term, terms)

    def test_of_terms_with_many_rows(self):
        for term in FEW:
            self.assert_tests(term, [price(), plain(), least(term) if brute.is_term(least(term)) else price(1)])


class TestTime(unittest.TestCase):
    """[2]: every call returns within a few seconds."""

    def test_at_the_bounds(self):
        heavy = [term for term in FEW if brute.counted_rows(term)[1] == 200]
        self.assertGreater(len(heavy), 2)
        for one in heavy + MANY:
            for function in ONE + TWO:
                begun = time.monotonic()
                try:
                    function(*[one] * (1 if function in ONE else 2))
                except TooMany:
                    pass
                self.assertLess(time.monotonic() - begun, 2)

    def test_a_count_far_beyond(self):
        begun = time.monotonic()
        term = rank(3, *[least(*[price(shop, at) for shop in range(5)]) for at in range(6)])
        for part in (term, most(*term[2])):
            self.assertRaises(TooMany, rows, part)
        self.assertLess(time.monotonic() - begun, 2)


if __name__ == "__main__":
    unittest.main()
