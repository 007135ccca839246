"""[2], [4], [5] and the interface, "pricespin/terms.py"."""

import copy
import inspect
import itertools
import random
import time
import unittest

import samples
from brute import expected, is_term, sizes
from pricespin import terms
from pricespin.errors import InvalidPrices, InvalidTerm
from pricespin.terms import check_term, mirror, shops_in, told
from samples import GREAT, any_term, least, most, nested, plain, price, rank, wide


class TestInterface(unittest.TestCase):
    def test_functions_are_defined_here_with_these_names(self):
        names = {"check_term": ["term"], "shops_in": ["term"], "told": ["term", "prices"], "mirror": ["term"]}
        for name, arguments in names.items():
            function = getattr(terms, name)
            self.assertTrue(inspect.isfunction(function))
            self.assertEqual(function.__module__, "pricespin.terms")
            self.assertEqual(list(inspect.signature(function).parameters), arguments)

    def test_arguments_by_name(self):
        self.assertIsNone(check_term(term=price()))
        self.assertEqual(shops_in(term=price(2)), [2])
        self.assertEqual(told(term=price(0, 4), prices=[3]), 7)
        self.assertEqual(mirror(term=plain(3)), plain(-3))


class TestTerm(unittest.TestCase):
    """[4]: what a term is."""

    def assert_term(self, *values):
        for value in values:
            self.assertIsNone(samples.kept(self, check_term, value))

    def assert_no_term(self, *values):
        for value in values:
            for function in (check_term, shops_in, mirror):
                with self.subTest(value=repr(value)[:80], function=function.__name__):
                    self.assertRaises(InvalidTerm, samples.kept, self, function, value)

    def test_terms_of_each_kind(self):
        self.assert_term(*samples.TERMS)

    def test_no_terms(self):
        self.assert_no_term(*samples.NO_TERMS)

    def test_shops(self):
        self.assert_term(*[price(shop) for shop in range(6)])
        self.assert_no_term(price(6), price(-1), least(price(5), price(6)), price(True), price(False))

    def test_numbers(self):
        self.assert_term(price(0, GREAT), price(0, -GREAT), plain(GREAT), plain(-GREAT), most(plain(GREAT)))
        self.assert_no_term(price(0, GREAT + 1), price(0, -GREAT - 1), plain(GREAT + 1), plain(-GREAT - 1))
        self.assert_no_term(most(plain(GREAT + 1)), rank(1, price(0, -GREAT - 1)))

    def test_parts(self):
        for many in range(1, 7):
            parts = [plain(n) for n in range(many)]
            self.assert_term(least(*parts), most(*parts), rank(1, *parts))
        for many in (0, 7, 8, 39, 1100):
            parts = [plain(n) for n in range(many)]
            self.assert_no_term(least(*parts), most(*parts), rank(1, *parts))

    def test_k(self):
        for many in range(1, 7):
            parts = [price(n) for n in range(many)]
            self.assert_term(*[rank(k, *parts) for k in range(1, many + 1)])
            self.assert_no_term(rank(0, *parts), rank(many + 1, *parts), rank(-1, *parts), rank(True, *parts))

    def test_many_terms(self):
        for many in range(2, 41):
            self.assertEqual(sizes(wide(many))[0], many)
            self.assert_term(wide(many))
        self.assertEqual(sizes(wide(41))[0], 41)
        self.assert_no_term(wide(41), wide(42))

    def test_one_that_stands_twice_counts_twice(self):
        part = least(*[price(shop) for shop in range(6)])
        self.assert_term(most(*[part] * 5, plain(1)), most(*[part] * 5))
        self.assert_no_term(most(*[part] * 6), most(most(*[part] * 5), plain(1), plain(1), plain(1), plain(1)))

    def test_levels(self):
        for levels in range(1, 7):
            self.assert_term(nested(levels))
            self.assert_term(most(plain(), nested(levels - 1)) if levels > 1 else plain())
        self.assert_no_term(nested(7), nested(8), nested(20))
        self.assert_no_term(least(plain(), nested(6)), least(nested(6), plain()), rank(2, plain(), nested(6)))

    def test_forty_terms_at_six_levels(self):
        inner = [price(shop) for shop in range(6)]
        term = rank(3, *inner)
        for _ in range(3):
            term = least(*inner[1:], term)
        term = most(term, least(*inner), rank(1, *inner))
        self.assertEqual(sizes(term), (40, 6))
        self.assert_term(term)
        self.assert_no_term(most(*term[1], plain()), least(*term[1][:2], most(*term[1][2:])))

    def test_a_term_with_an_odd_value_at_any_place(self):
        wrong = 0
        for term in (price(1, 2), plain(3), least(price(1, 2), plain(3)), rank(2, plain(1), most(price()), price(4))):
            for value in samples.replaced(term):
                if is_term(value):
                    self.assert_term(value)
                else:
                    wrong += 1
                    self.assertRaises(InvalidTerm, check_term, value)
        self.assertGreater(wrong, 1000)

    def test_great_invalid_values_do_not_take_long(self):
        begun = time.monotonic()
        shared = plain()
        for _ in range(50):
            shared = least(*[shared] * 6)
        values = [shared, ("least", (samples.deep_tuple(46),) * 60), (price(),) * 1100, samples.deep_tuple(900)]
        self.assert_no_term(samples.deep_term(24), [[[None] * 50] * 50])
        for value in values:
            self.assertRaises(InvalidTerm, check_term, value)
            self.assertRaises(InvalidTerm, told, value, [0])
        self.assertLess(time.monotonic() - begun, 5)

    def test_equal_terms_of_other_objects(self):
        for term in samples.TERMS:
            self.assert_term(copy.deepcopy(term))


class TestShopsIn(unittest.TestCase):
    """[4]: shops_in."""

    def test_ascending_and_once(self):
        self.assertEqual(shops_in(price(3, -1)), [3])
        self.assertEqual(shops_in(plain(3)), [])
        self.assertEqual(shops_in(least(plain(), plain(4))), [])
        self.assertEqual(shops_in(most(price(5), price(2), price(5, 1), least(price(0), price(2)))), [0, 2, 5])
        self.assertEqual(shops_in(rank(2, price(4), rank(1, price(1)), plain(3))), [1, 4])
        self.assertEqual(shops_in(wide(40)), [0, 1, 2, 3, 4, 5])

    def test_the_list_is_new(self):
        term = least(price(1), price(2))
        shops = shops_in(term)
        shops.append(0)
        self.assertEqual(shops_in(term), [1, 2])

    def test_all_permutations(self):
        for order in itertools.permutations([0, 2, 3, 5]):
            self.assertEqual(shops_in(least(*[price(shop) for shop in order])), [0, 2, 3, 5])


class TestTold(unittest.TestCase):
    """[5]: told."""

    def test_each_kind(self):
        prices = [40, 30, 20]
        self.assertEqual(told(price(1), prices), 30)
        self.assertEqual(told(price(1, -7), prices), 23)
        self.assertEqual(told(price(2, 7), prices), 27)
        self.assertEqual(told(plain(-4), prices), -4)
        self.assertEqual(told(least(price(0), price(2, 11), price(1, 2)), prices), 31)
        self.assertEqual(told(most(price(0), price(2, 21), price(1, 2)), prices), 41)
        self.assertEqual(told(least(price(2)), prices), 20)
        self.assertEqual(told(most(price(2)), prices), 20)
        self.assertEqual(told(most(least(price(0), price(1)), least(price(1), price(2)), plain(25)), prices), 30)

    def test_each_k(self):
        parts = [price(shop) for shop in (3, 0, 5, 1, 4, 2)]
        prices = [50, -10, 30, 0, 20, 40]
        for k, value in enumerate([-10, 0, 20, 30, 40, 50], start=1):
            self.assertEqual(told(rank(k, *parts), prices), value)

    def test_equal_prices_count_as_often_as_they_are_told(self):
        term = [price(0), price(1), plain(7), price(2, 1)]
        for k, value in enumerate([2, 7, 7, 7], start=1):
            self.assertEqual(told(rank(k, *term), [7, 7, 1]), value)
        self.assertEqual(told(rank(2, price(0), price(0), plain(5)), [3]), 3)
        self.assertEqual(told(rank(3, *[plain(2)] * 6), [0]), 2)

    def test_prices_of_either_sign_and_of_many_digits(self):
        great = 10 ** 40 - 1
        term = least(price(0, GREAT), most(price(1, -GREAT), plain(-5)))
        self.assertEqual(told(term, [great, great]), great - GREAT)
        self.assertEqual(told(term, [-great, great]), GREAT - great)
        self.assertEqual(told(term, [great, -great]), -5)
        self.assertEqual(told(price(0, 1), [10 ** 2500]), 10 ** 2500 + 1)
        self.assertEqual(told(rank(2, price(0), price(1), price(2)), [-great, great, great - 1]), great - 1)

    def test_lists_longer_than_needed(self):
        self.assertEqual(told(price(0, 1), [1, 2, 3, 4, 5, 6]), 2)
        self.assertEqual(told(plain(9), [1]), 9)
        self.assertEqual(told(plain(9), [1, 2, 3, 4, 5, 6]), 9)
        self.assertEqual(told(price(5), [1, 2, 3, 4, 5, 6]), 6)

    def test_as_its_words_say(self):
        draw = random.Random(5)
        for _ in range(400):
            term = any_term(draw)
            if is_term(term):
                prices = [draw.randint(-9, 9) for _ in range(6)]
                self.assertEqual(samples.kept(self, told, term, prices), expected(term, prices))

    def assert_no_prices(self, term, *values):
        for value in values:
            with self.subTest(term=term, value=repr(value)[:80]):
                self.assertRaises(InvalidPrices, samples.kept, self, told, term, value)

    def test_too_short_for_a_shop_in_the_term(self):
        self.assert_no_prices(price(1), [1])
        self.assert_no_prices(price(5), [1, 2, 3, 4, 5])
        self.assert_no_prices(least(price(0), most(plain(1), price(3))), [1, 2, 3], [1, 2], [1])
        self.assert_no_prices(most(price(4), price(0)), [1, 2, 3, 4])
        self.assertEqual(told(least(price(0), most(plain(1), price(3))), [1, 2, 3, 4]), 1)

    def test_no_list_of_one_to_six_integers(self):
        for term in (price(), plain(7), least(plain(), price())):
            self.assert_no_prices(
                term, [], [1] * 7, [1] * 1100, [True], [1, False], [0, 0, 0, 0, 0, True], (1,), (), (1, 2, 3), None,
                True, 1, "1", "", {}, {0: 1}, [None], [1, None], ["1"], [1, "2"], [(1,)], [[1]], [1, [2]], [{}],
                [[1, 2], [3]], samples.deep_tuple(50), [samples.deep_tuple(49)])

    def test_a_wrong_term_is_told_first(self):
        for term in (price(6), price(0, True), least(), nested(7), None, [], {}, plain(GREAT + 1)):
            for prices in (None, [], [True], [1] * 7, (1,), [1]):
                self.assertRaises(InvalidTerm, told, term, prices)


class TestMirror(unittest.TestCase):
    """[5]: mirror."""

    def test_each_kind(self):
        self.assertEqual(mirror(price(3, 4)), price(3, -4))
        self.assertEqual(mirror(price(3, -GREAT)), price(3, GREAT))
        self.assertEqual(mirror(price(3)), price(3))
        self.assertEqual(mirror(plain(4)), plain(-4))
        self.assertEqual(mirror(plain(-GREAT)), plain(GREAT))
        self.assertEqual(mirror(plain()), plain())
        self.assertEqual(mirror(least(price(0, 1), plain(2))), most(price(0, -1), plain(-2)))
        self.assertEqual(mirror(most(price(0, 1), plain(2))), least(price(0, -1), plain(-2)))
        self.assertEqual(mirror(least(most(least(plain(1))))), most(least(most(plain(-1)))))

    def test_each_k(self):
        for many in range(1, 7):
            parts = [price(shop, shop) for shop in range(many)]
            turned = [price(shop, -shop) for shop in range(many)]
            for k in range(1, many + 1):
                self.assertEqual(mirror(rank(k, *parts)), rank(many + 1 - k, *turned))

    def test_the_mirror_of_the_mirror(self):
        for term in samples.TERMS:
            check_term(mirror(term))
            self.assertEqual(samples.kept(self, mirror, mirror(term)), term)

    def test_it_tells_the_turned_price_of_the_turned_prices(self):
        draw = random.Random(6)
        made = [any_term(draw) for _ in range(300)]
        for term in samples.TERMS + [term for term in made if is_term(term)]:
            prices = [draw.choice([draw.randint(-6, 6), draw.randint(-10 ** 40, 10 ** 40)]) for _ in range(6)]
            self.assertEqual(told(mirror(term), [-number for number in prices]), -told(term, prices))


if __name__ == "__main__":
    unittest.main()
