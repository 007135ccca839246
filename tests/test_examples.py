"""The examples of DOC.md, each as it stands there and each a session of its own, and those of README.md."""

import doctest
import pathlib
import unittest

README = pathlib.Path(__file__).parent.parent / "README.md"

SESSIONS = [
    """
    >>> from pricespin.terms import mirror, told
    >>> term = ('least', (('price', 1, -1), ('most', (('price', 2, 5), ('plain', 100)))))
    >>> [told(term, [0, 90, 40]), told(term, [0, 200, 40]), mirror(term)]
    [89, 100, ('most', (('price', 1, 1), ('least', (('price', 2, -5), ('plain', -100)))))]
    """,
    """
    >>> from pricespin.texts import read_term, term_text
    >>> [term_text(('rank', 2, (('price', 0, 0), ('price', 1, -1), ('plain', -7)))), read_term('least(b-1, most(c + 5, 100))')]
    ['rank 2(a, b - 1, -7)', ('least', (('price', 1, -1), ('most', (('price', 2, 5), ('plain', 100)))))]
    """,
    """
    >>> from pricespin.rows import alike, matters, rows
    >>> a, b, c = ('price', 0, 0), ('price', 1, 0), ('price', 2, 0)
    >>> one = ('most', (('least', (a, b)), ('least', (a, c))))
    >>> [rows(one), alike(one, ('least', (a, ('most', (b, c))))), matters(('least', (a, ('most', (a, b)))))]
    [[(((0, 0),), ()), (((1, 0), (2, 0)), ())], True, [0]]
    """,
    """
    >>> from pricespin.moves import along, played, restless
    >>> book = [("price", 1, 5), ("price", 0, 3)]
    >>> capped = [("least", (("price", 1, 5), ("plain", 100))), ("price", 0, 3)]
    >>> [along(book, [0, 0], [0, 1, 1]), restless(book, [0, 0]), played(capped, [0, 0], [0, 1])]
    [[[5, 0], [5, 8], [5, 8]], [(0, 5), (1, 3)], (13, 1, [100, 103])]
    """,
    """
    >>> from pricespin.ends import endless, ends, last_round
    >>> book = [("price", 1, 5), ("price", 0, 3)]
    >>> [ends(book, [0, 0]), endless(book), last_round(book, [0, 0])]
    [[(0, None), (0, None)], ([0, 1], []), ('endless', [0, 1])]
    """,
    """
    >>> from pricespin.ends import ends, last_round
    >>> slow = [("least", (("price", 1, 1), ("plain", 10 ** 30))), ("price", 0, 0)]
    >>> [ends(slow, [0, 0]) == [(0, 10 ** 30), (0, 10 ** 30)], last_round(slow, [0, 0])]
    [True, ('round', [0, 1])]
    """,
    """
    >>> from pricespin.ends import endless_round
    >>> from pricespin.holds import caps, floors
    >>> from pricespin.moves import along
    >>> book = [("price", 1, 5), ("price", 0, 3)]
    >>> prices, order = endless_round(book)
    >>> [sorted(order), along(book, prices, order)[-1][0] > prices[0], caps(book), floors(book)]
    [[0, 1], True, [0], []]
    """,
]


class TestExamples(unittest.TestCase):
    def test_sessions(self):
        for session in [*SESSIONS, README.read_text()]:
            test = doctest.DocTestParser().get_doctest(session, {}, session, None, None)
            self.assertGreater(len(test.examples), 1)
            printed = []
            result = doctest.DocTestRunner(verbose=False).run(test, out=printed.append)
            self.assertEqual(result.failed, 0, "".join(printed))


if __name__ == "__main__":
    unittest.main()
