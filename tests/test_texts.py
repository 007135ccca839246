"""[2], [6] and the interface, "pricespin/texts.py"."""

import inspect
import itertools
import random
import time
import unittest

import samples
from pricespin import texts
from pricespin.errors import InvalidTerm, InvalidText
from pricespin.texts import read_term, term_text
from samples import GREAT, least, most, nested, plain, price, rank, wide

MOST_DIGITS = "1" + "0" * 30

# Texts as term_text writes them, and their terms.
WRITTEN = [
    ("a", price(0)), ("b", price(1)), ("c", price(2)), ("d", price(3)), ("e", price(4)), ("f", price(5)),
    ("a + 1", price(0, 1)), ("f - 1", price(5, -1)), ("c + " + MOST_DIGITS, price(2, GREAT)),
    ("c - " + MOST_DIGITS, price(2, -GREAT)), ("0", plain(0)), ("7", plain(7)), ("-7", plain(-7)),
    (MOST_DIGITS, plain(GREAT)), ("-" + MOST_DIGITS, plain(-GREAT)), ("10", plain(10)), ("b - 205", price(1, -205)),
    ("least(a)", least(price(0))), ("most(a)", most(price(0))), ("rank 1(a)", rank(1, price(0))),
    ("least(a, b)", least(price(0), price(1))), ("most(a + 1, -2, 0)", most(price(0, 1), plain(-2), plain(0))),
    ("rank 2(a, b, c)", rank(2, price(0), price(1), price(2))),
    ("rank 6(a, b, c, d, e, f)", rank(6, *[price(shop) for shop in range(6)])),
    ("least(b - 1, most(c + 5, 100))", least(price(1, -1), most(price(2, 5), plain(100)))),
    ("most(rank 1(least(a)), 3)", most(rank(1, least(price(0))), plain(3))),
    ("least(least(least(least(least(a)))))", nested(6)),
]


class TestInterface(unittest.TestCase):
    def test_functions_are_defined_here_with_these_names(self):
        for name, arguments in {"term_text": ["term"], "read_term": ["text"]}.items():
            function = getattr(texts, name)
            self.assertTrue(inspect.isfunction(function))
            self.assertEqual(function.__module__, "pricespin.texts")
            self.assertEqual(list(inspect.signature(function).parameters), arguments)

    def test_arguments_by_name(self):
        self.assertEqual(term_text(term=price(2, 3)), "c + 3")
        self.assertEqual(read_term(text="c + 3"), price(2, 3))


class TestTermText(unittest.TestCase):
    def test_each_kind(self):
        for text, term in WRITTEN:
            self.assertEqual(samples.kept(self, term_text, term), text)

    def test_no_term(self):
        for value in samples.NO_TERMS:
            with self.subTest(value=repr(value)[:80]):
                self.assertRaises(InvalidTerm, samples.kept, self, term_text, value)


class TestReadTerm(unittest.TestCase):
    def assert_read(self, term, *written):
        for text in written:
            with self.subTest(text=text):
                self.assertEqual(read_term(text), term)
                self.assertEqual(repr(read_term(text)), repr(term))

    def test_what_term_text_writes(self):
        for text, term in WRITTEN:
            self.assert_read(term, text)
        for term in samples.TERMS:
            self.assert_read(term, term_text(term))

    def test_further_blanks_at_each_place(self):
        pieces = "rank 2 ( a + 12 , - 7 , least ( f - 0 , 30 ) )".split()
        term = rank(2, price(0, 12), plain(-7), least(price(5), plain(30)))
        self.assert_read(term, "".join(pieces), " ".join(pieces), "   ".join(["", *pieces, ""]))
        self.assert_read(term, " " * 900 + "".join(pieces) + " " * 900)
        for at in range(len(pieces) + 1):
            for blanks in (" ", "     "):
                self.assert_read(term, "".join(pieces[:at]) + blanks + "".join(pieces[at:]))

    def test_fewer_blanks(self):
        self.assert_read(rank(2, price(0), price(1)), "rank 2(a, b)", "rank2(a, b)", "rank2(a,b)", "rank   2   (a,b)")
        self.assert_read(least(price(1, -1), most(price(2, 5), plain(100))), "least(b-1,most(c+5,100))")

    def test_nought(self):
        self.assert_read(price(0), "a + 0", "a - 0", "a+0", "a-0", " a  -  0 ")
        self.assert_read(plain(0), "0", "-0", "- 0", "  -  0  ")
        self.assert_read(plain(-3), "-3", "- 3", " -   3 ")
        self.assert_read(most(plain(0), price(3)), "most(-0, d + 0)")

    def assert_wrong(self, at, *written):
        for text in written:
            with self.subTest(text=str(text)[:80]):
                with self.assertRaises(InvalidText) as caught:
                    samples.kept(self, read_term, text)
                self.assertEqual(caught.exception.at, at)

    def test_a_value_that_is_no_string(self):
        self.assert_wrong(0, None, True, False, 0, 5, -10 ** 199, (), [], {}, ["a"], ("a",), {"a": 1}, price())
        self.assert_wrong(0, *[value for value in samples.ODD_VALUES if not isinstance(value, str)])

    def test_a_text_that_ends_too_early(self):
        for text in ("", " ", "-", "- ", "a +", "a -", "a + ", "least", "least ", "most", "rank", "rank ", "rank 2",
                     "rank 2 ", "rank2", "rank 2(", "least(", "least( ", "least(a", "least(a ", "least(a,", "least(a, ",
                     "least(a + ", "least(a + 1", "least(most(a)", "least(most(a),", "rank 1(rank 1(a)",
                     "most(-", "   "):
            self.assert_wrong(len(text), text)

    def test_a_wrong_character(self):
        for sign in "AZ_.;:!?\"'[]{}<>=*/\\&|^~@#$%`\t\n\r\0":
            self.assert_wrong(0, sign, sign + "a")
            self.assert_wrong(1, "a" + sign, " " + sign, "7" + sign, "-" + sign)
            self.assert_wrong(4, "a + " + sign, "rank" + sign, "a   " + sign, "most" + sign + "(a)")
            self.assert_wrong(6, "least(" + sign, "rank 2" + sign, "least " + sign, "a + 12" + sign)
            self.assert_wrong(8, "least(a " + sign, "least(a," + sign, "rank 1(a" + sign, "least(a)" + sign)

    def test_a_sign_that_cannot_stand_there(self):
        self.assert_wrong(0, "+", "+ 5", ")", "(", "(a)", ",", ",a", "()")
        self.assert_wrong(1, "a(", "a(b)", "a)", "a,", "a,b", "--5", "5+", "5+5", "5(", "-(", "-)", "-+5", "5,", "5)")
        self.assert_wrong(2, "- -5", "- +5", "a (", "a )", "a ,", "5 + 5", "5 - 5", "- (", "7 (")
        self.assert_wrong(4, "rank(a)", "rank-1(a)", "rank,", "a + -1", "a + +", "a - (", "a - )", "most,", "most)")
        self.assert_wrong(5, "least,", "least)", "least+", "rank +1(a)", "rank -1(a)", "rank (a)", "most()", "a + 1+1")
        self.assert_wrong(6, "least()", "least(,a)", "least(+1)", "least((a))", "rank 2,", "rank 2)", "rank 2-",
                          "a + 1 + 1",
                          "least -", "a - 1 - 1", "a - 1 (")
        self.assert_wrong(7, "least(a(", "least(1(", "least(1+2)", "rank 1()", "rank 1(,", "least(-)", "least(--1)")
        self.assert_wrong(8, "least(a,)", "least(a,,b)", "least(a))", "least(a),", "least(a)(", "least(a+)",
                          "least(a++1)")

    def test_a_number_that_cannot_stand_there(self):
        self.assert_wrong(1, "a1", "a5 + 1", "a0")
        self.assert_wrong(2, "5 5", "a 5", "0 0")
        self.assert_wrong(5, "least1(a)", "most 1(a)", "most 5")
        self.assert_wrong(7, "rank 2 2(a)", "least(a5)")

    def test_a_wrong_word(self):
        self.assert_wrong(0, "g", "z", "ab", "aa", "ax", "bcd", "leas(a)", "leastt(a)", "lest", "min(a)", "ranka",
                          "rankrank",
                          "leastmost(a)", "aleast(a)", "abcdef", "x" * 2000, "mostly", "bc + 1", "rankk 2(a)")
        self.assert_wrong(1, "-a", "-least(a)", "5a", "0a", "-x", " g", " bc", " leas")
        self.assert_wrong(2, "a b", "a least(a)", "5 a", "- a", "-5a", "a x")
        self.assert_wrong(4, "a + b", "a + least(a)", "a - xyz", "a+10abc")
        self.assert_wrong(5, "rank a(b)", "rank rank", "rank x", "a + 1a", "most(g)", "most(ab, a)", "most a")
        self.assert_wrong(6, "least(ab)", "least(leas)", "least least", "least a", "rank 2a", "rank 2rank",
                          "rank 1a(b)",
                          "rank2 a", "least(x", "least(zzz, a)", "least(ab")
        self.assert_wrong(7, "rank 2 a", "rank 2 least(a)", "least(1a)", "least(-a)")
        self.assert_wrong(8, "least(a b)", "least(a mostly", "least(a,x)", "least(a)a", "least(a)least(a)",
                          "least(a,az(")

    def test_a_word_that_is_cut_off(self):
        self.assert_wrong(0, "lea", "l", "le", "leas", "m", "mo", "mos", "r", "ra", "ran")
        for word in ("least", "most", "rank"):
            for end in range(2, len(word)):
                self.assert_wrong(0, word[:end], word[:end] + "(a)", word[:end] + " ", word[:end] + "?")
                self.assert_wrong(9, "least(a, " + word[:end])
                self.assert_wrong(2, "  " + word[:end], "- " + word[:end], "a " + word[:end])
            self.assert_wrong(len(word), word)

    def test_a_number_with_a_leading_nought(self):
        self.assert_wrong(1, "00", "01", "007", "00000")
        self.assert_wrong(2, "-00", "-01", "0 1", "0 0")
        self.assert_wrong(5, "a + 00", "a - 01", "a + 00 + 1")
        self.assert_wrong(6, "rank 01(a)", "rank 00(a)")
        self.assert_wrong(7, "least(00)", "most(-01)", "least(09, a)")

    def test_a_number_of_32_digits(self):
        for digits in ("1" * 32, "9" * 40, "1" + "0" * 31, "5" * 9000):
            self.assert_wrong(31, digits)
            self.assert_wrong(32, "-" + digits, " " + digits)
            self.assert_wrong(35, "a + " + digits, "a - " + digits)
            self.assert_wrong(36, "rank " + digits + "(a)")
            self.assert_wrong(37, "least(" + digits + ")")
            self.assert_wrong(1, "0" + digits)
            self.assert_wrong(2, "a " + digits, "5 " + digits)
        self.assert_wrong(32, "1" * 31 + " 1")

    def test_further_characters_behind_the_end(self):
        self.assert_wrong(8, "least(a)b", "least(a),b", "least(a)-1", "least(a)(", "least(a)0", "least(a)\n")
        self.assert_wrong(9, "least(a) b", "least(a) + 1", "rank 1(a))", "rank 1(a)(b)", "least(a) least(b)")
        self.assert_wrong(3, "a  b", "a  ?", "7  7", "100(", "100)")
        self.assert_wrong(1, "a\n", "a\t", "7\n")

    def test_the_text_is_looked_at_ahead_of_the_term(self):
        self.assert_wrong(10, "rank 0(a) ?")
        self.assert_wrong(15, "rank 9(a, a, a,")
        self.assert_wrong(32, "9" * 31 + " ?")
        self.assert_wrong(16, "least(a,a,a,a,a,?", "least(a,a,a,a,a,")
        self.assert_wrong(43, "least(" * 7 + "a")
        self.assert_wrong(33, "least(" + ",".join("abcdefabcdefab") + "?")

    def assert_no_term(self, *written):
        for text in written:
            with self.subTest(text=text[:80]):
                self.assertRaises(InvalidTerm, read_term, text)

    def test_too_many_parts(self):
        for word in ("least", "most", "rank 1", "rank 7"):
            self.assert_no_term(word + "(a, b, c, d, e, f, 1)", word + "(" + ",".join("a" * 30) + ")")
        self.assertEqual(read_term("most(a, b, c, d, e, 1)"), most(*[price(shop) for shop in range(5)], plain(1)))
        self.assert_no_term("least(" + ",".join("a" * 4990) + ")")

    def test_too_many_terms(self):
        part = "least(a, b, c, d, e, f)"
        self.assertEqual(read_term("most(" + ", ".join([part] * 5) + ", 7)"), most(*[read_term(part)] * 5, plain(7)))
        self.assertEqual(read_term(term_text(wide(40))), wide(40))
        self.assert_no_term("most(" + ", ".join([part] * 6) + ")")
        self.assert_no_term("most(" + ", ".join([part] * 5) + ", most(1, 2, 3, 4))")

    def test_too_many_levels(self):
        self.assertEqual(read_term("least(" * 5 + "a" + ")" * 5), nested(6))
        for many in (6, 7, 50, 99, 100):
            self.assert_no_term("least(" * many + "a" + ")" * many, "rank 1(" * many + "4" + ")" * many)
        self.assert_no_term("least(1, " * 6 + "a" + ")" * 6)

    def test_a_wrong_k(self):
        self.assert_no_term("rank 0(a)", "rank0(a)", "rank 2(a)", "rank 3(a, b)", "rank 7(a, b, c, d, e, f)",
                            "rank " + "9" * 31 + "(a)", "least(rank 0(a))", "rank 1(rank 2(a))")
        self.assertEqual(read_term("rank 2(a, b)"), rank(2, price(0), price(1)))

    def test_too_great_a_number(self):
        beyond = "1" + "0" * 29 + "1"
        for digits in (beyond, "9" * 31, "2" + "0" * 30):
            self.assert_no_term(digits, "-" + digits, "a + " + digits, "a - " + digits, "least(a, " + digits + ")")
        for digits in (MOST_DIGITS, "9" * 30):
            number = int(digits)
            self.assertEqual(read_term("-" + digits), plain(-number))
            self.assertEqual(read_term("a - " + digits), price(0, -number))

    def test_long_texts_do_not_take_long(self):
        begun = time.monotonic()
        self.assert_wrong(9999, "least(" + " " * 9993 + "?")
        self.assert_wrong(9995, "most(" + "a," * 4995)
        self.assert_wrong(600, "least(" * 100)
        self.assert_wrong(0, "l" * 10000)
        self.assert_wrong(31, "1" * 10000)
        self.assert_no_term(" " * 4000 + "rank 1(" * 100 + "a" + ")" * 100 + " " * 4000)
        self.assert_wrong(9996, "least(" * 1666)
        self.assertLess(time.monotonic() - begun, 5)


def ends_of(text):
    """Texts that complete the text, if any does: an open bracket is all that has to be remembered of it."""
    for start in ("", "a", "0", "(a", "1(a"):
        depth = (text + start).count("(") - (text + start).count(")")
        yield start + ")" * depth


def is_read(text):
    try:
        read_term(text)
    except InvalidText:
        return False
    except InvalidTerm:
        return True
    return True


def wrong_place(text):
    """The place that [6] describes, found by trying all ends of each beginning."""
    at = 0
    while at < len(text):
        word = "".join(itertools.takewhile(str.islower, text[at:]))
        behind = at + max(1, len(word))
        if not any(is_read(text[:behind] + end) for end in ends_of(text[:behind])):
            return at
        at = behind
    return at


class TestPlace(unittest.TestCase):
    """The place in InvalidText, held against all texts that are right."""

    def assert_place(self, text):
        if is_read(text):
            self.assertEqual(wrong_place(text), len(text))
            return
        with self.assertRaises(InvalidText) as caught:
            read_term(text)
        self.assertEqual(caught.exception.at, wrong_place(text), text)

    def test_all_short_texts(self):
        pieces = ["a", "x", "rank", "least", "0", "12", " ", "(", ")", ",", "-", "+", "?"]
        for many in range(5):
            for chosen in itertools.product(pieces, repeat=many):
                self.assert_place("".join(chosen))

    def test_right_texts_with_one_piece_changed(self):
        draw = random.Random(7)
        for text, _ in WRITTEN:
            for at in range(len(text) + 1):
                sign = draw.choice("afglz019 (),-+?")
                ahead, behind = text[:at], text[at + 1:]
                for changed in (ahead + sign + text[at:], ahead + behind, ahead + sign + behind, ahead):
                    self.assert_place(changed)


if __name__ == "__main__":
    unittest.main()
