"""The examples of DOC.md, each as it stands there and each a session of its own, and those of README.md."""

import doctest
import pathlib
import unittest

README = pathlib.Path(__file__).parent.parent / "README.md"

SESSIONS = [
    """
    >>> from pricespin.terms import mirror, told
    >>> term = ('least', (('price', 1, -1), ('most', (('price', 2, 5), ('plain', 100)))))
    >>> [told(term, [0, 90, 40]), told(term, [0, 200, 40]), mirror(term)]
    [89, 100, ('most', (('price', 1, 1), ('least', (('price', 2, -5), ('plain', -100)))))]
    """,
    """
    >>> from pricespin.texts import read_term, term_text
    >>> [term_text(('rank', 2, (('price', 0, 0), ('price', 1, -1), ('plain', -7)))), read_term('least(b-1, most(c + 5, 100))')]
    ['rank 2(a, b - 1, -7)', ('least', (('price', 1, -1), ('most', (('price', 2, 5), ('plain', 100)))))]
    """,
    """
    >>> from pricespin.rows import alike, matters, rows
    >>> a, b, c = ('price', 0, 0), ('price', 1, 0), ('price', 2, 0)
    >>> one = ('most', (('least', (a, b)), ('least', (a, c))))
    >>> [rows(one), alike(one, ('least', (a, ('most', (b, c))))), matters(('least', (a, ('most', (a, b)))))]
    [[(((0, 0),), ()), (((1, 0), (2, 0)), ())], True, [0]]
    """,
    """
    >>> from pricespin.changes import same_tops, spare_rows, top_rows
    >>> rules = [('least', (('price', 1, 5), ('price', 2, 3))), ('price', 2, -2), ('price', 2, 0)]
    >>> [spare_rows(rules), top_rows(rules)[0], same_tops(rules, [('price', 2, 3)] + rules[1:])]
    [[[(((1, 5),), ())], [], []], [(((0, 0), (2, 3)), ())], True]
    """,
    """
    >>> from pricespin.values import Rule
    >>> rule = (Rule(('price', 1, 0)) - 1 | 50) & Rule(('price', 0, 3))
    >>> [rule([40, 60]), rule([90, 60]), 1 in rule, rule.within(Rule(('price', 0, 3)))]
    [43, 59, True, True]
    """,
    """
    >>> from pricespin.moves import along, played, restless
    >>> book = [("price", 1, 5), ("price", 0, 3)]
    >>> capped = [("least", (("price", 1, 5), ("plain", 100))), ("price", 0, 3)]
    >>> [along(book, [0, 0], [0, 1, 1]), restless(book, [0, 0]), played(capped, [0, 0], [0, 1])]
    [[[5, 0], [5, 8], [5, 8]], [(0, 5), (1, 3)], (13, 1, [100, 103])]
    """,
    """
    >>> from pricespin.ends import endless, ends, last_round
    >>> book = [("price", 1, 5), ("price", 0, 3)]
    >>> [ends(book, [0, 0]), endless(book), last_round(book, [0, 0])]
    [[(0, None), (0, None)], ([0, 1], []), ('endless', [0, 1])]
    """,
    """
    >>> from pricespin.ends import ends, last_round
    >>> slow = [("least", (("price", 1, 1), ("plain", 10 ** 30))), ("price", 0, 0)]
    >>> [ends(slow, [0, 0]) == [(0, 10 ** 30), (0, 10 ** 30)], last_round(slow, [0, 0])]
    [True, ('round', [0, 1])]
    """,
    """
    >>> from pricespin.ends import endless_round
    >>> from pricespin.holds import caps, floors
    >>> from pricespin.moves import along
    >>> book = [("price", 1, 5), ("price", 0, 3)]
    >>> prices, order = endless_round(book)
    >>> [sorted(order), along(book, prices, order)[-1][0] > prices[0], caps(book), floors(book)]
    [[0, 1], True, [0], []]
    """,
    """
    >>> from pricespin.quiet import between, quiet, sure
    >>> pair = [("most", (("least", (("price", 1, 0), ("plain", 10))), ("plain", 3))), ("most", (("least", (("price", 0, 0), ("plain", 10))), ("plain", 3)))]
    >>> [quiet(pair, [4, 7]), sure(pair, [4, 7]), sure(pair, [10, 20]), between(pair, [3, 3], [10, 10], 2)]
    [([4, 4], [7, 7]), None, [10, 10], [5, 5]]
    """,
    """
    >>> from pricespin.starts import greatest_start
    >>> capped = [("least", (("price", 1, 5), ("plain", 100))), ("price", 0, 3)]
    >>> [greatest_start([("price", 1, 5), ("plain", 7)], [0, 0], 1, [50, None]), greatest_start(capped, [0, 0], 1, [95, None])]
    [('most', 45), ('none',)]
    """,
    """
    >>> from pricespin.logs import fault
    >>> from pricespin.papers import market_text, read_market
    >>> capped = [("least", (("price", 1, 5), ("plain", 100))), ("price", 0, 3)]
    >>> text = market_text(capped, [90, 88], [(0, 93)])
    >>> [text, read_market(text) == (capped, [90, 88], [(0, 93)]), fault(capped, [90, 88], [(0, 93), (1, 95)])]
    ['a 90: least(b + 5, 100)\\nb 88: a + 3\\nlog\\na 93\\n', True, 1]
    """,
    """
    >>> from pricespin.desk import Market
    >>> capped = [("least", (("price", 1, 5), ("plain", 100))), ("price", 0, 3)]
    >>> market = Market(capped, [90, 88])
    >>> [market.reprice(0), market.reach(), market.rest()]
    [3, [(93, 100), (88, 103)], ([100, 103], [100, 103])]
    """,
    """
    >>> from pricespin.seen import fit_rule, foretell
    >>> seen = [([5, 9], 6), ([8, 6], 5)]
    >>> [fit_rule('least', seen), foretell('least', seen, [7, 9]), fit_rule('most', seen)]
    [('rule', [1, -1], 6), (6, 8), ('rule', [-3, -3], 5)]
    """,
]


class TestExamples(unittest.TestCase):
    def test_sessions(self):
        for session in [*SESSIONS, README.read_text()]:
            test = doctest.DocTestParser().get_doctest(session, {}, session, None, None)
            self.assertGreater(len(test.examples), 1)
            printed = []
            result = doctest.DocTestRunner(verbose=False).run(test, out=printed.append)
            self.assertEqual(result.failed, 0, "".join(printed))


if __name__ == "__main__":
    unittest.main()
