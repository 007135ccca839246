"""[1] to [3] and the section "The interface", over the whole program."""

import ast
import copy
import importlib
import inspect
import pathlib
import random
import unittest

import brute
import samples
from books import BOOK, CAPPED, PAIR, mirrors
from pricespin.changes import higher, same_tops, spare_rows, top_rows, trial_starts
from pricespin.desk import Market, try_all
from pricespin.ends import endless, endless_round, ends, last_round
from pricespin.errors import InvalidTerm, SpinError
from pricespin.holds import caps, floors
from pricespin.logs import fault
from pricespin.moves import along, played, restless
from pricespin.papers import market_text, read_market
from pricespin.quiet import between, is_quiet, only_quiet, quiet, sure
from pricespin.rows import alike, matters, never_above, parting, rows, tests
from pricespin.seen import fit_rule, foretell
from pricespin.starts import greatest_start
from pricespin.terms import check_term, mirror, shops_in, told
from pricespin.texts import read_term, term_text
from pricespin.values import Rule
from samples import GREAT, level_rules, least, plain, price

TEXT = "a 90: least(b + 5, 100)\nb 88: a + 3\nlog\na 93\n"
PACKAGE = pathlib.Path(__file__).parent.parent / "pricespin"

FUNCTIONS = {
    "terms": {"check_term": ["term"], "shops_in": ["term"], "told": ["term", "prices"], "mirror": ["term"]},
    "texts": {"term_text": ["term"], "read_term": ["text"]},
    "rows": {"rows": ["term"], "never_above": ["one", "other"], "alike": ["one", "other"], "parting": ["one", "other"],
             "matters": ["term"], "tests": ["term"]},
    "moves": {"along": ["rules", "prices", "order"], "restless": ["rules", "prices"],
              "played": ["rules", "prices", "order"]},
    "ends": {"ends": ["rules", "prices"], "last_round": ["rules", "prices"], "endless": ["rules"],
             "endless_round": ["rules"]},
    "holds": {"caps": ["rules"], "floors": ["rules"]},
    "quiet": {"is_quiet": ["rules", "prices"], "quiet": ["rules", "prices"], "sure": ["rules", "prices"],
              "between": ["rules", "one", "other", "near"], "only_quiet": ["rules"]},
    "starts": {"greatest_start": ["rules", "prices", "shop", "limits"]},
    "logs": {"fault": ["rules", "prices", "log"]},
    "changes": {"top_rows": ["rules"], "trial_starts": ["rules"], "higher": ["one", "other"],
                "same_tops": ["one", "other"], "spare_rows": ["rules"]},
    "papers": {"market_text": ["rules", "prices", "log"], "read_market": ["text"]},
    "desk": {"try_all": ["market", "deeds"]},
    "seen": {"fit_rule": ["kind", "seen"], "foretell": ["kind", "seen", "prices"]},
}
CLASSES = {
    "values": {"Rule": ["__init__", "term", "__call__", "__add__", "__radd__", "__sub__", "__and__", "__or__",
                        "__neg__", "__eq__", "__contains__", "within"]},
    "desk": {"Market": ["__init__", "rules", "prices", "reprice", "put", "exchange", "undo", "redo", "reach", "rest",
                        "is_calm", "trial", "__getitem__", "__len__"]},
}


class TestInterface(unittest.TestCase):
    def test_functions_are_defined_in_their_files_with_these_names(self):
        for name, functions in FUNCTIONS.items():
            module = importlib.import_module(f"pricespin.{name}")
            for word, arguments in functions.items():
                function = getattr(module, word)
                self.assertEqual((function.__module__, function.__name__), (module.__name__, word))
                self.assertEqual(list(inspect.signature(function).parameters), arguments)

    def test_classes_are_defined_in_their_files_with_these_methods(self):
        for name, classes in CLASSES.items():
            module = importlib.import_module(f"pricespin.{name}")
            for word, methods in classes.items():
                self.assertEqual((getattr(module, word).__module__, getattr(module, word).__name__),
                                 (module.__name__, word))
                for method in methods:
                    self.assertIn(method, vars(getattr(module, word)))

    def test_the_package_imports_nothing_but_itself(self):
        files = sorted(PACKAGE.glob("*"))
        self.assertIn(PACKAGE / "__init__.py", files)
        for file in files:
            if file.name == "__pycache__":
                continue
            self.assertEqual(file.suffix, ".py")
            for node in ast.walk(ast.parse(file.read_text())):
                self.assertNotIsInstance(node, ast.Import)
                if isinstance(node, ast.ImportFrom):
                    self.assertTrue(node.module.startswith("pricespin."), (file, node.module))


class TestConventions(unittest.TestCase):
    """[2]"""

    def test_no_term_where_a_term_is_taken(self):
        market = Market([price()], [0])
        for value in (None, True, (), [], "least(a)", ["price", 0, 0], price(6), ("price", 0), Rule(price())):
            for refused in (
                    lambda: check_term(value), lambda: shops_in(value), lambda: told(value, None),
                    lambda: mirror(value), lambda: term_text(value), lambda: rows(value), lambda: matters(value),
                    lambda: tests(value), lambda: alike(value, None), lambda: never_above(price(), value),
                    lambda: parting(value, price()), lambda: Rule(value), lambda: market.exchange(0, value)):
                self.assertRaises(InvalidTerm, refused)

    def test_every_error_is_a_spin_error(self):
        draw = random.Random(21)
        functions = [getattr(importlib.import_module(f"pricespin.{name}"), word)
                     for name, some in FUNCTIONS.items() for word in some if word != "try_all"]
        right = [BOOK, CAPPED, [0, 0], [90, 88], 0, 1, "least", TEXT, [(0, 93)], [([5, 9], 6)], [None, 4], price(1)]
        answers = 0
        for _ in range(4000):
            function = draw.choice(functions)
            arguments = [copy.deepcopy(draw.choice(right + right + samples.ODD_VALUES))
                         for _ in inspect.signature(function).parameters]
            before = copy.deepcopy(arguments)
            try:
                function(*arguments)
                answers += 1
            except SpinError:
                pass
            self.assertEqual(arguments, before)
        self.assertGreater(answers, 50)

    def test_what_is_returned_may_be_passed_again(self):
        rules = [least(price(1, GREAT), plain(GREAT)), price(0, GREAT), price(1, GREAT)]
        start = trial_starts(rules)[0]
        low, high = quiet(rules, start)
        self.assertEqual(between(rules, low, high, 0), low)
        self.assertEqual([top for _, top in ends(rules, high)], high)
        self.assertIsNone(higher(rules, rules))
        self.assertTrue(is_quiet(rules, only_quiet(rules)[1]))
        self.assertEqual(greatest_start(rules, high, 0, high), ("most", high[0]))
        self.assertEqual(told(rules[0], parting(rules[0], rules[1])), GREAT)
        self.assertEqual(read_market(market_text(rules, [0, 1, 2], []))[0], rules)
        adds = fit_rule("least", [([10 ** 199], -10 ** 199)])[1]
        self.assertEqual(foretell("most", [(adds, 0)], adds), (0, 0))
        self.assertEqual(greatest_start([price()], adds, 0, adds), ("most", -2 * 10 ** 199))


class TestGuarantees(unittest.TestCase):
    """[3]: what several functions tell holds together."""

    def test_of_any_rules(self):
        draw = random.Random(31)
        kinds = {"end": 0, "none": 0}
        for turn in range(300):
            rules = level_rules(draw, draw.randint(1, 5)) if turn % 2 else samples.any_rules(draw, draw.randint(1, 5))
            if max(brute.choices(rules), brute.choices(mirrors(rules))) > 200:
                continue
            prices = [draw.randint(-20, 20) for _ in rules]
            reached = ends(rules, prices)
            risers, fallers = endless(rules)
            self.assertEqual(risers, [shop for shop, (_, high) in enumerate(reached) if high is None])
            self.assertEqual(fallers, [shop for shop, (low, _) in enumerate(reached) if low is None])
            self.assertIs(endless_round(rules) is None, risers == [])
            self.assertEqual((caps(rules) == [], floors(rules) == []), (risers == [], fallers == []))
            self.assertIs(only_quiet(rules)[0] == "none", risers + fallers != [])
            kinds["none" if risers + fallers else "end"] += 1
            self.assertEqual([some is None for some in top_rows(rules)], [high is None for _, high in reached])
            self.assertEqual([some and min(brute.told_by_row(row, prices) for row in some) for some in top_rows(rules)],
                             [high for _, high in reached])
            self.assertTrue(same_tops(rules, [least(rule, rule) if turn % 3 else rule for rule in rules]))
            self.assert_one_spare_row_can_be_left_out(rules)
            market = Market(rules, prices)
            self.assertEqual((market.reach(), market.rest()), (reached, quiet(rules, prices)))
            if risers + fallers == []:
                self.assert_quiet_ones(rules, prices, reached)
        self.assertGreater(min(kinds.values()), 60)

    def assert_one_spare_row_can_be_left_out(self, rules):
        for shop, some in enumerate(spare_rows(rules)):
            for row in some:
                left = brute.term_of([other for other in rows(rules[shop]) if other != row])
                if brute.is_term(left):
                    self.assertTrue(same_tops(rules, rules[:shop] + [left] + rules[shop + 1:]))

    def assert_quiet_ones(self, rules, prices, reached):
        low, high = quiet(rules, prices)
        for one in (low, high):
            self.assertEqual(restless(rules, one), [])
            self.assertTrue(all(least_one <= own <= top for own, (least_one, top) in zip(one, reached)))
            # quiet ones come to nothing but themselves
            self.assertEqual(ends(rules, one), [(own, own) for own in one])
            self.assertEqual(sure(rules, one), one)
            self.assertEqual(last_round(rules, one), ("round", []))
            self.assertEqual(played(rules, one, [0]), (0, 1, one))
        # limits at the greatest prices are kept, any lesser one is not
        tops = [top for _, top in reached]
        self.assertGreaterEqual(greatest_start(rules, prices, 0, tops)[1], prices[0])
        for shop, top in enumerate(tops):
            lower = tops[:shop] + [top - 1] + tops[shop + 1:]
            start = greatest_start(rules, prices, 0, lower)
            self.assertTrue(start == ("none",) or start[1] < prices[0])

    def test_repricings_are_logged_told_and_read_back(self):
        draw = random.Random(32)
        for _ in range(60):
            rules = samples.any_rules(draw, draw.randint(1, 6))
            prices = [draw.randint(-20, 20) for _ in rules]
            order = [draw.randrange(len(rules)) for _ in range(20)]
            steps = along(rules, prices, order)
            log = [(shop, behind[shop]) for shop, behind in zip(order, steps)]
            self.assertIsNone(fault(rules, prices, log))
            self.assertEqual(read_market(market_text(rules, prices, log)), (rules, prices, log))
            market = Market(rules, prices)
            try_all(market, [("reprice", shop) for shop in order])
            self.assertEqual(market.prices, steps[-1])

    def test_simple_rules_are_told_back(self):
        draw = random.Random(33)
        for _ in range(60):
            parts = [price(shop, draw.randint(-9, 9)) for shop in range(draw.randint(1, 5))]
            term = (draw.choice(["least", "most"]), (*parts, plain(draw.randint(-9, 9))))
            lots = [[draw.randint(-9, 9) for _ in term[1][:-1]] for _ in range(50)]
            _, adds, number = fit_rule(term[0], [(prices, told(term, prices)) for prices in lots])
            back = (term[0], (*[price(shop, add) for shop, add in enumerate(adds)], plain(number)))
            self.assertEqual([told(back, prices) for prices in lots], [told(term, prices) for prices in lots])
            self.assertTrue(never_above(back, term) if term[0] == "least" else never_above(term, back))

    def test_a_market_of_texts(self):
        rules = [read_term("least(b - 1, most(c - 1, 60))"), read_term("least(a + 2, 95)"), read_term("70")]
        self.assertEqual(ends(rules, [80, 80, 80]), [(69, 80), (71, 82), (70, 80)])
        self.assertEqual(ends(PAIR, [0, 50]), [(0, 10), (3, 50)])


if __name__ == "__main__":
    unittest.main()
