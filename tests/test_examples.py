"""The examples of DOC.md, each as it stands there and each a session of its own, and those of README.md."""

import doctest
import pathlib
import unittest

README = pathlib.Path(__file__).parent.parent / "README.md"

SESSIONS = [
    """
    >>> from pricespin.terms import mirror, told
    >>> term = ('least', (('price', 1, -1), ('most', (('price', 2, 5), ('plain', 100)))))
    >>> [told(term, [0, 90, 40]), told(term, [0, 200, 40]), mirror(term)]
    [89, 100, ('most', (('price', 1, 1), ('least', (('price', 2, -5), ('plain', -100)))))]
    """,
    """
    >>> from pricespin.texts import read_term, term_text
    >>> [term_text(('rank', 2, (('price', 0, 0), ('price', 1, -1), ('plain', -7)))), read_term('least(b-1, most(c + 5, 100))')]
    ['rank 2(a, b - 1, -7)', ('least', (('price', 1, -1), ('most', (('price', 2, 5), ('plain', 100)))))]
    """,
]


class TestExamples(unittest.TestCase):
    def test_sessions(self):
        for session in [*SESSIONS, README.read_text()]:
            test = doctest.DocTestParser().get_doctest(session, {}, session, None, None)
            self.assertGreater(len(test.examples), 1)
            printed = []
            result = doctest.DocTestRunner(verbose=False).run(test, out=printed.append)
            self.assertEqual(result.failed, 0, "".join(printed))


if __name__ == "__main__":
    unittest.main()
