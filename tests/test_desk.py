"""[22], [23] and the interface, "pricespin/desk.py"."""

import inspect
import random
import unittest

import brute
import samples
from books import BEYOND, BOOK, CAPPED, PAIR, ROWS_BEYOND, mirrors
from pricespin import desk as module
from pricespin.desk import Market, try_all
from pricespin.ends import ends
from pricespin.errors import (InvalidPrice, InvalidPrices, InvalidRules, InvalidShop, InvalidTerm, NothingToRedo,
                              NothingToUndo, TooMany, UnknownDeed)
from pricespin.quiet import is_quiet, quiet
from pricespin.values import Rule
from samples import GREAT, any_rules, assert_raised, least, plain, price


def state(market):
    return (market.rules, market.prices)


def past_and_future(market):
    """All states of the market, taken back and done again; the market is left as it was."""
    back, forth = [], []
    for method, error, some in ((market.undo, NothingToUndo, back), (market.redo, NothingToRedo, forth)):
        try:
            while True:
                method()
                some.append(state(market))
        except error:
            pass
    for _ in range(len(forth) - len(back)):
        market.undo()
    return back, forth


class TestInterface(unittest.TestCase):
    def test_the_class_is_defined_here_with_these_methods(self):
        self.assertTrue(inspect.isclass(Market))
        self.assertEqual(Market.__module__, "pricespin.desk")
        self.assertIs(module.Market, Market)
        self.assertEqual(list(inspect.signature(Market).parameters), ["rules", "prices"])
        names = {"reprice": ["shop"], "put": ["shop", "price"], "exchange": ["shop", "rule"], "undo": [], "redo": [],
                 "reach": [], "rest": [], "is_calm": [], "trial": []}
        for name, arguments in names.items():
            self.assertEqual(list(inspect.signature(vars(Market)[name]).parameters), ["self"] + arguments)
        for name in ("__init__", "__getitem__", "__len__"):
            self.assertTrue(inspect.isfunction(vars(Market)[name]), name)
        for name in ("rules", "prices"):
            self.assertIsInstance(vars(Market)[name], property)
        self.assertEqual(try_all.__module__, "pricespin.desk")
        self.assertEqual(list(inspect.signature(try_all).parameters), ["market", "deeds"])

    def test_arguments_by_name(self):
        market = Market(rules=[plain(3)], prices=[4])
        self.assertEqual(market.reprice(shop=0), -1)
        market.put(shop=0, price=9)
        market.exchange(shop=0, rule=price())
        try_all(market=market, deeds=[("undo",)])
        self.assertEqual(state(market), ([plain(3)], [9]))


class TestMarket(unittest.TestCase):
    """[22]"""

    def test_no_rules(self):
        for rules in samples.NO_RULES:
            assert_raised(self, InvalidRules, Market, rules, [0])
            assert_raised(self, InvalidRules, Market, rules, None)

    def test_no_prices(self):
        for rules in ([plain()], BOOK, [price(0)] * 6):
            for prices in samples.no_prices(len(rules)):
                assert_raised(self, InvalidPrices, Market, rules, prices)

    def test_rules_and_prices_are_new_lists(self):
        rules, prices = list(CAPPED), [90, 88]
        market = Market(rules, prices)
        rules[0], prices[0] = plain(1), 5
        prices.append(7)
        self.assertEqual(state(market), (CAPPED, [90, 88]))
        market.rules[0] = plain(1)
        market.prices.clear()
        self.assertEqual(state(market), (CAPPED, [90, 88]))
        self.assertIsNot(market.rules, market.rules)
        self.assertIsNot(market.prices, market.prices)
        told, (low, high) = market.reach(), market.rest()
        told.clear()
        low.clear()
        high[0] = 4
        self.assertEqual((market.reach(), market.rest()), (ends(CAPPED, [90, 88]), quiet(CAPPED, [90, 88])))
        for name in ("rules", "prices"):
            with self.assertRaises(AttributeError):
                setattr(market, name, [1, 2])

    def test_deeds(self):
        market = Market(CAPPED, [90, 88])
        self.assertEqual(market.reprice(0), 3)
        self.assertEqual(market.reprice(0), 0)
        self.assertEqual(market.prices, [93, 88])
        self.assertIsNone(market.put(1, -5))
        self.assertEqual(market.reprice(0), -93)
        self.assertEqual(market.prices, [0, -5])
        self.assertIsNone(market.exchange(1, plain(9)))
        self.assertEqual(state(market), ([CAPPED[0], plain(9)], [0, -5]))
        self.assertEqual(market.reprice(1), 14)
        self.assertEqual([market[0], market[1], len(market)], [0, 9, 2])

    def test_prices_of_any_size(self):
        market = Market(BOOK, [10 ** 2500, 0])
        market.put(1, -10 ** 4000)
        self.assertEqual(market.reprice(0), 5 - 10 ** 4000 - 10 ** 2500)
        self.assertEqual(market[0], 5 - 10 ** 4000)

    def test_length(self):
        for many in range(1, 7):
            market = Market([plain(3)] * many, list(range(many)))
            self.assertEqual(len(market), many)
            self.assertEqual([market[shop] for shop in range(many)], list(range(many)))

    def test_no_shop(self):
        for rules in ([plain()], BOOK, [price()] * 6):
            market = Market(rules, [7] * len(rules))
            for shop in samples.no_shops(len(rules)):
                for function in (market.__getitem__, market.reprice):
                    with self.assertRaises(InvalidShop):
                        function(shop)
                for price_or_rule in (5, None, price(), "x", True, price(5)):
                    with self.assertRaises(InvalidShop):
                        market.put(shop, price_or_rule)
                    with self.assertRaises(InvalidShop):
                        market.exchange(shop, price_or_rule)
            for shop in (slice(0, 1), slice(None), ...):
                with self.assertRaises(InvalidShop):
                    market[shop]
            self.assertEqual(state(market), (rules, [7] * len(rules)))
            with self.assertRaises(NothingToUndo):
                market.undo()

    def test_no_price(self):
        market = Market(BOOK, [1, 2])
        for value in samples.ODD_VALUES:
            if value not in (6, -1, GREAT + 1, -GREAT - 1, 10 ** 199):
                with self.assertRaises(InvalidPrice):
                    market.put(1, value)
        self.assertEqual(past_and_future(market), ([], []))
        self.assertEqual(state(market), (BOOK, [1, 2]))

    def test_no_rule(self):
        market = Market(BOOK, [1, 2])
        for value in [*samples.NO_TERMS, Rule(price())]:
            with self.assertRaises(InvalidTerm):
                market.exchange(1, value)
        for value in (price(2), price(5), least(plain(1), price(1), price(3))):
            with self.assertRaises(InvalidRules):
                market.exchange(0, value)
        self.assertEqual(past_and_future(market), ([], []))
        self.assertEqual(state(market), (BOOK, [1, 2]))

    def test_a_market_is_not_iterated_over(self):
        with self.assertRaises(TypeError):
            iter(Market(BOOK, [1, 2]))

    def test_what_it_tells_of_its_rules_and_prices(self):
        draw = random.Random(221)
        for _ in range(80):
            rules = any_rules(draw, draw.randint(1, 4))
            market = Market(rules, [draw.randint(-9, 9) for _ in rules])
            for _ in range(3):
                market.reprice(draw.randrange(len(rules)))
                self.assertEqual(market.reach(), ends(market.rules, market.prices))
                self.assertEqual(market.rest(), quiet(market.rules, market.prices))
                self.assertIs(market.is_calm(), is_quiet(market.rules, market.prices))
        self.assertIs(Market(PAIR, [4, 4]).is_calm(), True)
        self.assertIsNone(Market(BOOK, [4, 4]).rest())

    def test_too_many(self):
        for rules in (BEYOND, ROWS_BEYOND, mirrors(BEYOND)):
            market = Market(rules, [0] * 6)
            for function in (market.reach, market.rest):
                with self.assertRaises(TooMany):
                    function()
            self.assertIs(market.is_calm(), brute.is_quiet(rules, [0] * 6))
            market.reprice(3)
            market.exchange(0, rules[0])


class TestUndo(unittest.TestCase):
    """[22]: undo and redo."""

    def test_nothing_to_undo_or_redo(self):
        market = Market(CAPPED, [90, 88])
        for _ in range(2):
            with self.assertRaises(NothingToUndo):
                market.undo()
            with self.assertRaises(NothingToRedo):
                market.redo()
        market.put(0, 5)
        with self.assertRaises(NothingToRedo):
            market.redo()
        market.undo()
        with self.assertRaises(NothingToUndo):
            market.undo()
        market.redo()
        with self.assertRaises(NothingToRedo):
            market.redo()
        self.assertEqual(market.prices, [5, 88])

    def test_each_deed_is_taken_back_and_done_again(self):
        market = Market(CAPPED, [90, 88])
        states = [state(market)]
        for deed in (lambda: market.reprice(0), lambda: market.put(1, 7), lambda: market.exchange(1, plain(4)),
                     lambda: market.reprice(1), lambda: market.reprice(1), lambda: market.put(1, 4),
                     lambda: market.exchange(1, plain(4)), lambda: market.reprice(0)):
            deed()
            states.append(state(market))
        for at in range(len(states) - 2, -1, -1):
            self.assertIsNone(market.undo())
            self.assertEqual(state(market), states[at])
        for at in range(1, len(states)):
            self.assertIsNone(market.redo())
            self.assertEqual(state(market), states[at])

    def test_also_one_that_changed_nothing(self):
        market = Market(PAIR, [4, 4])
        self.assertEqual(market.reprice(0), 0)
        market.put(0, 4)
        market.exchange(0, PAIR[0])
        for _ in range(3):
            market.undo()
        with self.assertRaises(NothingToUndo):
            market.undo()

    def test_nothing_is_done_again_behind_another_deed(self):
        for deed in (lambda market: market.reprice(0), lambda market: market.put(1, 2),
                     lambda market: market.exchange(0, price(1))):
            market = Market([price(1), price(0)], [2, 2])
            market.put(0, 5)
            market.put(0, 6)
            market.undo()
            market.undo()
            deed(market)
            with self.assertRaises(NothingToRedo):
                market.redo()
            self.assertEqual(past_and_future(market)[0], [([price(1), price(0)], [2, 2])])

    def test_a_refused_deed_changes_nothing(self):
        market = Market(BOOK, [1, 2])
        market.put(0, 5)
        market.put(0, 6)
        market.undo()
        for method, arguments in ((market.reprice, (2,)), (market.put, (0, None)), (market.put, (-1, 3)),
                                  (market.exchange, (0, None)), (market.exchange, (0, price(2))),
                                  (market.reprice, (True,))):
            with self.assertRaises(ValueError):
                method(*arguments)
        self.assertEqual(past_and_future(market), ([(BOOK, [1, 2])], [(BOOK, [5, 2]), (BOOK, [6, 2])]))
        self.assertEqual(market.prices, [5, 2])
        market.redo()
        with self.assertRaises(NothingToRedo):
            market.redo()
        self.assertEqual(market.prices, [6, 2])

    def test_many_deeds(self):
        market = Market([price(0, 1)], [0])
        for _ in range(3000):
            market.reprice(0)
        for _ in range(3000):
            market.undo()
        self.assertEqual(market.prices, [0])
        for _ in range(3000):
            market.redo()
        self.assertEqual(market.prices, [3000])


class Slow:
    """A market that keeps all its states, straight from the words of [22]."""

    def __init__(self, rules, prices):
        self.done, self.gone, self.now = [], [], (list(rules), list(prices))

    def deed(self, word, shop=None, value=None):
        """Do a deed; False if there is nothing to be taken back or done again."""
        rules, prices = list(self.now[0]), list(self.now[1])
        if word in ("undo", "redo"):
            ahead, behind = (self.done, self.gone) if word == "undo" else (self.gone, self.done)
            if not ahead:
                return False
            behind.append(self.now)
            self.now = ahead.pop()
            return True
        if word == "exchange":
            rules[shop] = value
        else:
            prices[shop] = value if word == "put" else brute.expected(rules[shop], prices)
        self.done.append(self.now)
        self.gone, self.now = [], (rules, prices)
        return True


def any_deed(draw, shops):
    shop = draw.randrange(shops)
    return draw.choice([("reprice", shop), ("put", shop, draw.randint(-9, 9)), ("undo",), ("undo",), ("redo",),
                        ("exchange", shop, any_rules(draw, shops, 2)[0])])


class TestAnyDeeds(unittest.TestCase):
    def test_any_deeds(self):
        draw = random.Random(222)
        for _ in range(100):
            rules = any_rules(draw, draw.randint(1, 4))
            prices = [draw.randint(-9, 9) for _ in rules]
            market, slow = Market(rules, prices), Slow(rules, prices)
            for _ in range(40):
                word, *arguments = any_deed(draw, len(rules))
                before = slow.now
                if slow.deed(word, *arguments):
                    change = getattr(market, word)(*arguments)
                    told = slow.now[1][arguments[0]] - before[1][arguments[0]] if word == "reprice" else None
                    self.assertEqual(change, told)
                else:
                    with self.assertRaises(NothingToUndo if word == "undo" else NothingToRedo):
                        getattr(market, word)()
                self.assertEqual(state(market), slow.now)

    def test_any_deeds_at_once(self):
        draw = random.Random(223)
        failed = 0
        for _ in range(300):
            rules = any_rules(draw, draw.randint(1, 3))
            prices = [draw.randint(-9, 9) for _ in rules]
            market, slow = Market(rules, prices), Slow(rules, prices)
            for _ in range(6):
                word, *arguments = any_deed(draw, len(rules))
                if slow.deed(word, *arguments):
                    getattr(market, word)(*arguments)
            before = (list(slow.done), list(slow.gone), slow.now)
            deeds = [any_deed(draw, len(rules)) for _ in range(draw.randint(0, 6))]
            if all(slow.deed(*deed) for deed in deeds):
                self.assertIsNone(try_all(market, deeds))
            else:
                failed += 1
                with self.assertRaises((NothingToUndo, NothingToRedo)):
                    try_all(market, deeds)
                slow.done, slow.gone, slow.now = before
            self.assertEqual(state(market), slow.now)
            back, forth = past_and_future(market)
            self.assertEqual(back, slow.done[::-1])
            self.assertEqual(forth, [*slow.done, slow.now, *slow.gone[::-1]][1:])
            self.assertEqual(state(market), slow.now)
        self.assertTrue(50 < failed < 250)


class TestTrial(unittest.TestCase):
    """[23]"""

    def market(self):
        """With two deeds to be taken back and two to be done again."""
        market = Market(CAPPED, [90, 88])
        for number in (1, 2, 3, 4):
            market.put(1, number)
        market.undo()
        market.undo()
        return market

    def assert_as_before(self, market):
        self.assertEqual(state(market), (CAPPED, [90, 2]))
        back, forth = past_and_future(market)
        self.assertEqual([prices for _, prices in back], [[90, 1], [90, 88]])
        self.assertEqual([prices for _, prices in forth], [[90, number] for number in (1, 2, 3, 4)])
        self.assertEqual(state(market), (CAPPED, [90, 2]))

    def test_same_is_the_market(self):
        market = self.market()
        with market.trial() as same:
            self.assertIs(same, market)
            same.put(0, 5)
        self.assertEqual(market.prices, [5, 2])
        self.assertEqual([prices for _, prices in past_and_future(market)[0]], [[90, 2], [90, 1], [90, 88]])

    def test_an_error_of_any_kind_leaves_the_block(self):
        for error in (ValueError("x"), KeyError(1), Exception(), KeyboardInterrupt(), SystemExit(), GeneratorExit(),
                      InvalidShop("x"), RuntimeError(), BaseException()):
            market = self.market()
            with self.assertRaises(error.__class__) as caught:
                with market.trial() as same:
                    same.put(0, 5)
                    same.exchange(1, plain(4))
                    same.reprice(1)
                    raise error
            self.assertIs(caught.exception, error)
            self.assert_as_before(market)

    def test_an_error_of_the_market_leaves_the_block(self):
        for deeds in (lambda market: market.reprice(2), lambda market: (market.redo(), market.redo(), market.redo()),
                      lambda market: (market.undo(), market.undo(), market.undo()),
                      lambda market: (market.undo(), market.put(0, 1), market.redo()),
                      lambda market: (market.put(0, 1), market.exchange(0, None)), lambda market: 1 // 0):
            market = self.market()
            with self.assertRaises((ValueError, ArithmeticError)):
                with market.trial():
                    deeds(market)
            self.assert_as_before(market)

    def test_an_error_that_does_not_leave_the_block(self):
        market = self.market()
        with market.trial():
            market.put(0, 5)
            with self.assertRaises(InvalidShop):
                market.reprice(7)
            market.put(0, 6)
        self.assertEqual(market.prices, [6, 2])

    def test_a_block_that_is_left_without_an_error(self):
        def leave(market):
            for _ in "ab":
                with market.trial():
                    market.put(0, market[0] + 1)
                    continue
            while True:
                with market.trial():
                    market.put(0, market[0] + 1)
                    break
            with market.trial():
                market.put(0, market[0] + 1)
                return market[0]

        market = self.market()
        self.assertEqual(leave(market), 94)
        self.assertEqual(market.prices, [94, 2])
        with market.trial():
            market.undo()
        self.assertEqual(market.prices, [93, 2])

    def test_blocks_within_blocks(self):
        market = self.market()
        with self.assertRaises(KeyError):
            with market.trial():
                market.put(0, 5)
                with self.assertRaises(ValueError):
                    with market.trial():
                        market.put(0, 6)
                        raise ValueError
                self.assertEqual(market.prices, [5, 2])
                with market.trial():
                    market.put(0, 7)
                self.assertEqual(market.prices, [7, 2])
                raise KeyError
        self.assert_as_before(market)

    def test_the_same_trial_again(self):
        market = self.market()
        trial = market.trial()
        for number in (5, 6):
            with self.assertRaises(KeyError):
                with trial as same:
                    same.put(0, number)
                    raise KeyError
            self.assert_as_before(market)
        with self.assertRaises(KeyError):
            with trial:
                market.put(0, 5)
                with trial:
                    market.put(0, 6)
                self.assertEqual(market.prices, [6, 2])
                raise KeyError
        self.assert_as_before(market)

    def test_as_it_was_when_the_block_was_entered(self):
        market = Market(CAPPED, [90, 88])
        trial = market.trial()
        market.put(0, 5)
        with self.assertRaises(KeyError):
            with trial:
                market.put(0, 6)
                raise KeyError
        self.assertEqual(market.prices, [5, 88])

    def test_two_markets(self):
        one, other = self.market(), self.market()
        with self.assertRaises(KeyError):
            with one.trial(), other.trial():
                one.put(0, 5)
                other.put(0, 6)
                raise KeyError
        self.assert_as_before(one)
        self.assert_as_before(other)
        with self.assertRaises(KeyError):
            with one.trial():
                other.put(0, 6)
                raise KeyError
        self.assertEqual(other.prices, [6, 2])


class TestTryAll(unittest.TestCase):
    """[23]"""

    def market(self):
        return TestTrial.market(self)

    def test_deeds(self):
        market = self.market()
        self.assertIsNone(try_all(market, []))
        self.assertEqual(market.prices, [90, 2])
        deeds = [("undo",), ("redo",), ("redo",), ("reprice", 0), ("put", 1, 50), ("exchange", 0, plain(9)),
                 ("reprice", 0)]
        before = list(deeds)
        self.assertIsNone(try_all(market, deeds))
        self.assertEqual(deeds, before)
        self.assertEqual(state(market), ([plain(9), CAPPED[1]], [9, 50]))
        for _ in range(4):
            market.undo()
        self.assertEqual(market.prices, [90, 3])

    def test_unknown_deeds(self):
        forms = [
            ("reprice",), ("reprice", 0, 0), ("put", 0), ("put", 0, 1, 2), ("put",), ("exchange", 0),
            ("exchange", 0, plain(1), 0), ("exchange",), ("undo", 0), ("redo", 0), ("undo", None), ("reach",),
            ("rest",),
            ("Undo",), ("undo ",), ("",), ("trial",), (None,), (0,), (True, 0), (["undo"],), (("undo",),), ({},),
            ["undo"], ["reprice", 0], {"undo": 0}, "undo", "reprice", (("reprice", 0),), (("reprice", 0), 1),
            (["reprice"], 0), (0, "reprice"), ("reprice", 0) * 2, ("undo",) * 2, (Rule(price()), 0), Rule(price()),
        ]
        for deed in samples.ODD_VALUES + forms:
            for ahead in ([], [("put", 0, 5)], [("undo",), ("reprice", 0)]):
                market = self.market()
                with self.subTest(deed=repr(deed)[:100]):
                    with self.assertRaises(UnknownDeed):
                        try_all(market, ahead + [deed, ("put", 9, 9)])
                    TestTrial.assert_as_before(self, market)

    def test_errors_of_the_deeds(self):
        for deed, error in [
                (("reprice", 2), InvalidShop), (("reprice", None), InvalidShop), (("reprice", []), InvalidShop),
                (("put", 2, None), InvalidShop), (("put", 0, None), InvalidPrice), (("put", 0, True), InvalidPrice),
                (("exchange", -1, None), InvalidShop), (("exchange", 0, None), InvalidTerm),
                (("exchange", 0, price(2)), InvalidRules)]:
            market = self.market()
            with self.assertRaises(error) as caught:
                try_all(market, [("redo",), ("put", 0, 7), deed, None])
            self.assertIs(caught.exception.__class__, error)
            TestTrial.assert_as_before(self, market)
        for deeds, error in [([("undo",)] * 3, NothingToUndo), ([("redo",)] * 3, NothingToRedo),
                             ([("put", 0, 1), ("redo",)], NothingToRedo),
                             ([("undo",), ("undo",), ("undo",), 0], NothingToUndo)]:
            market = self.market()
            with self.assertRaises(error):
                try_all(market, deeds)
            TestTrial.assert_as_before(self, market)

    def test_many_deeds(self):
        market = Market([price(0, 1)], [0])
        try_all(market, [("reprice", 0)] * 1100)
        self.assertEqual(market.prices, [1100])
        with self.assertRaises(UnknownDeed):
            try_all(market, [("undo",)] * 1099 + [("undone",)])
        self.assertEqual(market.prices, [1100])


if __name__ == "__main__":
    unittest.main()
