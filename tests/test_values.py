"""[18], [19] and the interface, "pricespin/values.py"."""

import copy
import inspect
import itertools
import random
import unittest

import brute
import samples
from books import ROWS_BEYOND, read_rules
from brute import expected, is_term
from pricespin import values as module
from pricespin.errors import InvalidNumber, InvalidPrices, InvalidTerm, TooMany
from pricespin.rows import alike, matters, never_above
from pricespin.terms import mirror
from pricespin.values import Rule
from samples import GREAT, any_right_term, least, most, nested, plain, price, rank, wide

MANY = ROWS_BEYOND[0]
NO_NUMBERS = [value for value in samples.ODD_VALUES if value not in (6, -1)] + [10 ** 31, "1", (1,), [1]]


def assert_raised(case, error, function, *arguments):
    """That the function raises this error, no other one."""
    with case.assertRaises(error) as caught:
        function(*arguments)
    case.assertIs(caught.exception.__class__, error)


def add(one, other):
    return one + other


def subtract(one, other):
    return one - other


def both(one, other):
    return one & other


def either(one, other):
    return one | other


def held(rule, shop):
    return shop in rule


def raised(term, number):
    """The term with each add and each plain number greater by the number."""
    match term:
        case ("price", shop, own):
            return ("price", shop, own + number)
        case ("plain", own):
            return ("plain", own + number)
    return term[:-1] + (tuple(raised(part, number) for part in term[-1]),)


class TestInterface(unittest.TestCase):
    def test_the_class_is_defined_here_with_these_methods(self):
        self.assertTrue(inspect.isclass(Rule))
        self.assertEqual(Rule.__module__, "pricespin.values")
        self.assertIs(module.Rule, Rule)
        self.assertEqual(list(inspect.signature(Rule).parameters), ["term"])
        for name in ("__init__", "__call__", "__add__", "__radd__", "__sub__", "__and__", "__or__", "__neg__", "__eq__",
                     "__contains__", "within"):
            self.assertTrue(inspect.isfunction(vars(Rule)[name]), name)
        self.assertIsInstance(vars(Rule)["term"], property)
        self.assertEqual(list(inspect.signature(Rule.__call__).parameters), ["self", "prices"])
        self.assertEqual(list(inspect.signature(Rule.within).parameters), ["self", "other"])

    def test_arguments_by_name(self):
        rule = Rule(term=price(0, 3))
        self.assertEqual(rule(prices=[4]), 7)
        self.assertIs(rule.within(other=Rule(price(0, 4))), True)


class TestRule(unittest.TestCase):
    """[18]: the term, and what it tells."""

    def test_the_term(self):
        for term in samples.TERMS:
            rule = Rule(term)
            self.assertEqual(rule.term, term)
            self.assertEqual(type(rule.term), tuple)

    def test_no_term(self):
        odd = [value for value in samples.ODD_VALUES if not is_term(value)]
        for value in [*samples.NO_TERMS, *odd, Rule(price()), [Rule(price())], least(Rule(price()))]:
            assert_raised(self, InvalidTerm, Rule, value)

    def test_it_does_not_change(self):
        rule, other = Rule(price(0, 3)), Rule(plain(7))
        for made in (rule + 1, 1 + rule, rule - 1, rule & other, rule | other, rule & 4, rule | 4, -rule):
            self.assertIsInstance(made, Rule)
            self.assertEqual((rule.term, other.term), (price(0, 3), plain(7)))
        for name in ("term",):
            with self.assertRaises(AttributeError):
                setattr(rule, name, price())
        self.assertEqual(rule.term, price(0, 3))

    def test_a_sign_with_a_later_assignment_makes_another_one(self):
        rule = same = Rule(price(0, 3))
        rule += 4
        rule -= 1
        rule &= 9
        rule |= 2
        self.assertEqual(rule.term, most(least(price(0, 6), plain(9)), plain(2)))
        self.assertEqual(same.term, price(0, 3))

    def test_what_it_tells(self):
        draw = random.Random(181)
        for _ in range(200):
            term = any_right_term(draw)
            prices = [draw.randint(-9, 9) for _ in range(6)]
            self.assertEqual(samples.kept(self, Rule(term), prices), expected(term, prices))
        self.assertEqual(Rule(price(0, GREAT))([10 ** 2500]), 10 ** 2500 + GREAT)

    def test_no_prices(self):
        for prices in samples.no_prices(6):
            if prices != [0] * 7 and prices != [0] * 5:
                assert_raised(self, InvalidPrices, Rule(price(5)), prices)
        for prices in ([], [0] * 7, [0] * 5, (0,) * 6, None):
            assert_raised(self, InvalidPrices, Rule(price(5)), prices)
        assert_raised(self, InvalidPrices, Rule(plain(5)), [])
        assert_raised(self, InvalidPrices, Rule(plain(5)), [0] * 7)
        self.assertEqual(Rule(plain(5))([0]), 5)
        self.assertEqual(Rule(price(4))([0] * 5), 0)


class TestSigns(unittest.TestCase):
    """[18]: the operators."""

    def test_some(self):
        rule = (Rule(price(1)) - 1 | 50) & Rule(price(0, 3))
        self.assertEqual(rule.term, least(most(price(1, -1), plain(50)), price(0, 3)))
        self.assertEqual((Rule(rank(2, price(0, 1), plain(-2))) + 5).term, rank(2, price(0, 6), plain(3)))
        self.assertEqual((5 + Rule(rank(2, price(0, 1), plain(-2)))).term, rank(2, price(0, 6), plain(3)))
        self.assertEqual((Rule(rank(2, price(0, 1), plain(-2))) - 5).term, rank(2, price(0, -4), plain(-7)))
        self.assertEqual((-Rule(rank(2, price(0, 1), plain(-2), price(1)))).term,
                         rank(2, price(0, -1), plain(2), price(1)))
        self.assertEqual((Rule(price()) & Rule(price())).term, least(price(), price()))
        self.assertEqual((Rule(price()) | -3).term, most(price(), plain(-3)))

    def test_numbers(self):
        draw = random.Random(182)
        for _ in range(200):
            term = any_right_term(draw, 4, 6, 9)
            number = draw.choice([0, 1, -1, draw.randint(-99, 99), GREAT - 9, 9 - GREAT])
            rule = Rule(term)
            self.assertEqual((rule + number).term, raised(term, number))
            self.assertEqual((number + rule).term, raised(term, number))
            self.assertEqual((rule - number).term, raised(term, -number))
            prices = [draw.randint(-9, 9) for _ in range(6)]
            self.assertEqual((rule + number)(prices), rule(prices) + number)
            self.assertEqual((rule - number)(prices), rule(prices) - number)

    def test_no_number(self):
        for rule in (Rule(price()), Rule(nested(6)), Rule(plain(GREAT))):
            for number in [*NO_NUMBERS, rule, Rule(plain(1))]:
                assert_raised(self, InvalidNumber, add, rule, number)
                assert_raised(self, InvalidNumber, add, number, rule)
                assert_raised(self, InvalidNumber, subtract, rule, number)

    def test_a_number_less_a_rule_is_not_offered(self):
        for number in (1, 0, GREAT):
            with self.assertRaises(TypeError):
                subtract(number, Rule(price()))
        self.assertFalse(hasattr(Rule, "__rsub__"))

    def test_sums_at_the_bounds(self):
        self.assertEqual((Rule(price(0, GREAT)) - GREAT).term, price())
        self.assertEqual((Rule(price(0, GREAT - 1)) + 1).term, price(0, GREAT))
        self.assertEqual((Rule(plain(GREAT)) - GREAT - GREAT).term, plain(-GREAT))
        for term in (price(0, GREAT), plain(GREAT), least(price(1, -5), most(plain(0), price(0, GREAT)))):
            assert_raised(self, InvalidTerm, add, Rule(term), 1)
            assert_raised(self, InvalidTerm, add, 1, Rule(term))
            assert_raised(self, InvalidTerm, add, Rule(term), GREAT)
            assert_raised(self, InvalidTerm, subtract, Rule(term), -1)
            assert_raised(self, InvalidTerm, subtract, -Rule(term), 1)
            assert_raised(self, InvalidTerm, add, -Rule(term), -1)
            assert_raised(self, InvalidNumber, add, Rule(term), GREAT + 1)
            assert_raised(self, InvalidNumber, subtract, Rule(term), GREAT + 1)

    def test_joined_ones(self):
        draw = random.Random(183)
        for _ in range(150):
            one, other = any_right_term(draw, 3), any_right_term(draw, 3)
            number = draw.choice([0, GREAT, -GREAT, draw.randint(-9, 9)])
            self.assertEqual((Rule(one) & Rule(other)).term, least(one, other))
            self.assertEqual((Rule(one) | Rule(other)).term, most(one, other))
            self.assertEqual((Rule(one) & number).term, least(one, plain(number)))
            self.assertEqual((Rule(one) | number).term, most(one, plain(number)))
            self.assertEqual((-Rule(one)).term, mirror(one))
            prices = [draw.randint(-9, 9) for _ in range(6)]
            self.assertEqual((Rule(one) & Rule(other))(prices), min(expected(one, prices), expected(other, prices)))
            self.assertEqual((Rule(one) | Rule(other))(prices), max(expected(one, prices), expected(other, prices)))
            self.assertEqual((-Rule(one))([-number for number in prices]), -expected(one, prices))

    def test_nothing_to_be_joined_with(self):
        # the term itself is none of them
        for other in [*NO_NUMBERS, GREAT + 1, -GREAT - 1, price(), plain(1), [price()]]:
            for function in (both, either):
                assert_raised(self, InvalidTerm, function, Rule(price()), other)

    def test_too_many_terms_or_levels(self):
        for one, other in ((nested(6), price()), (price(), nested(6)), (wide(20), wide(20)), (wide(39), price()),
                           (wide(40), plain()), (price(), wide(39))):
            for function in (both, either):
                assert_raised(self, InvalidTerm, function, Rule(one), Rule(other))
        for rule in (Rule(nested(6)), Rule(wide(39)), Rule(wide(40))):
            for function in (both, either):
                assert_raised(self, InvalidTerm, function, rule, 3)
        for one, other in ((nested(5), nested(5)), (wide(19), wide(20)), (wide(38), price())):
            self.assertTrue(is_term(least(one, other)))
            self.assertEqual((Rule(one) & Rule(other)).term, least(one, other))
        self.assertEqual((Rule(wide(38)) | 3).term, most(wide(38), plain(3)))


class TestHeldAgainst(unittest.TestCase):
    """[19]: ==, in, within."""

    def test_equal_ones(self):
        a, b, c = (Rule(price(shop)) for shop in range(3))
        self.assertTrue((a & b) | (a & c) == a & (b | c))
        self.assertFalse((a & b) | (a & c) != a & (b | c))
        self.assertTrue(a & (a | b) == a)
        self.assertFalse(a == b)
        self.assertTrue(a != b)
        self.assertTrue(a + 1 == Rule(price(0, 1)))
        self.assertIs(a == copy.deepcopy(a), True)

    def test_equal_to_nothing_that_is_no_rule(self):
        for term in (price(), plain(6), nested(6), MANY):
            for other in [*samples.ODD_VALUES, term, list(term), object(), Rule]:
                self.assertIs(Rule(term) == other, False)
                self.assertIs(other == Rule(term), False)
                self.assertIs(Rule(term) != other, True)

    def test_as_rows_are_held(self):
        draw = random.Random(191)
        terms = [any_right_term(draw, draw.choice([1, 2, 3]), 2, 2) for _ in range(50)]
        alikes = belows = 0
        for one, other in itertools.product(terms, repeat=2):
            self.assertIs(Rule(one) == Rule(other), alike(one, other))
            self.assertIs(Rule(one).within(Rule(other)), never_above(one, other))
            alikes += alike(one, other)
            belows += never_above(one, other)
        self.assertTrue(60 < alikes < belows < 2000)

    def test_in(self):
        rule = Rule(least(price(1), most(price(1, -1), price(4))))
        self.assertEqual([shop in rule for shop in range(6)], [False, True, False, False, True, False])
        rule = Rule(least(price(1), most(price(1), price(4))))
        self.assertEqual([shop in rule for shop in range(6)], [False, True, False, False, False, False])
        draw = random.Random(192)
        for _ in range(100):
            term = any_right_term(draw)
            if brute.counted_rows(term)[1] <= 200:
                self.assertEqual([shop for shop in range(6) if shop in Rule(term)], matters(term))

    def test_what_is_no_shop_is_not_in_it(self):
        rule = Rule(least(*[price(shop) for shop in range(6)]))
        for value in [value for value in samples.ODD_VALUES if value != -1] + [-1, 7, "0", (0,), [1], rule, price()]:
            self.assertIs(value in rule, False)
            self.assertIs(value in Rule(MANY), False)

    def test_within(self):
        a, b = Rule(price(0)), Rule(price(1))
        self.assertIs((a & b).within(a), True)
        self.assertIs(a.within(a & b), False)
        self.assertIs((a & 5).within(5), True)
        self.assertIs((a & 5).within(4), False)
        self.assertIs((a & 5).within(6), True)
        self.assertIs(a.within(GREAT), False)
        self.assertIs(Rule(plain(-GREAT)).within(-GREAT), True)
        self.assertIs(Rule(plain(GREAT)).within(GREAT), True)
        for other in [*NO_NUMBERS, GREAT + 1, -GREAT - 1, price(), plain(1), [a]]:
            assert_raised(self, InvalidTerm, a.within, other)
            # ahead of TooMany
            assert_raised(self, InvalidTerm, Rule(MANY).within, other)

    def test_too_many(self):
        many, few = Rule(MANY), Rule(price())
        for one, other in ((many, few), (few, many), (many, many), (many, Rule(MANY))):
            with self.assertRaises(TooMany):
                one == other
            with self.assertRaises(TooMany):
                one != other
            assert_raised(self, TooMany, one.within, other)
        assert_raised(self, TooMany, many.within, 4)
        for shop in range(6):
            assert_raised(self, TooMany, held, many, shop)
        # nothing else looks at the rows
        self.assertEqual((many + 1 - 1).term, MANY)
        self.assertEqual((-many).term, mirror(MANY))
        self.assertEqual(many([0] * 6), 0)
        self.assertEqual((many & 1).term, least(MANY, plain(1)))

    def test_just_so_many(self):
        term, = read_rules("rank 2(least(a, b), rank 2(a, b, c, d, e), rank 2(a, b, c, d, e, f))")
        self.assertIs(Rule(term) == Rule(term), True)
        self.assertEqual([shop in Rule(term) for shop in range(6)], [True] * 6)


if __name__ == "__main__":
    unittest.main()
