"""[20], [21] and the interface, "pricespin/papers.py"."""

import inspect
import random
import re
import time
import unittest

import samples
from books import BEYOND, BOOK, CAPPED
from pricespin import papers as module
from pricespin.errors import InvalidLine, InvalidLog, InvalidPrices, InvalidRules, InvalidTerm, InvalidText
from pricespin.papers import market_text, read_market
from pricespin.texts import read_term, term_text
from samples import GREAT, any_rules, assert_raised, kept, least, nested, plain, price, wide

TEXT = "a 90: least(b + 5, 100)\nb 88: a + 3\nlog\na 93\n"
TOLD = (CAPPED, [90, 88], [(0, 93)])
PRICE = re.compile(r"-?[1-9][0-9]{0,40}|0")
SHOP_LINE = re.compile(r" *([^ :]+) +([^ :]+) *:(.*)", re.DOTALL)
ENTRY_LINE = re.compile(r" *([^ ]+) +([^ ]+) *", re.DOTALL)


def taken(text):
    """The term of a text that read_term takes, otherwise None."""
    try:
        return read_term(text)
    except (InvalidTerm, InvalidText):
        return None


def wrong_shop_line(line, shops):
    """The reason for which the line cannot stand behind so many shops, or None."""
    found = SHOP_LINE.fullmatch(line)
    if found is None:
        return "line"
    if found[1] != "abcdef-"[len(shops)]:
        return "shop"
    if PRICE.fullmatch(found[2]) is None:
        return "price"
    return "rule" if taken(found[3]) is None else None


def wrong_entry(line, shops, log):
    found = ENTRY_LINE.fullmatch(line)
    if found is None:
        return "line"
    if found[1] not in [*"abcdef"][:len(shops)]:
        return "shop"
    if PRICE.fullmatch(found[2]) is None:
        return "price"
    return "log" if len(log) == 200 else None


def read_slowly(text):
    """What read_market returns, or (line, reason) of the error that it raises, line by line."""
    shops, log, ended = [], [], False
    for at, line in enumerate(text.split("\n")):
        if re.fullmatch(" *", line):
            continue
        if not ended and re.fullmatch(" *log *", line):
            if not shops:
                return (at, "shop")
            for place, _, rule in shops:
                if any(letter in term_text(rule).replace("least", "").replace("rank", "").replace("most", "")
                       for letter in "abcdef"[len(shops):]):
                    return (place, "rule")
            ended = True
            continue
        wrong = wrong_entry(line, shops, log) if ended else wrong_shop_line(line, shops)
        if wrong is not None:
            return (at, wrong)
        if ended:
            letter, told = ENTRY_LINE.fullmatch(line).groups()
            log.append(("abcdef".index(letter), int(told)))
        else:
            _, told, rule = SHOP_LINE.fullmatch(line).groups()
            shops.append((at, int(told), read_term(rule)))
    if not ended:
        return (text.count("\n") + 1, "log")
    return ([rule for _, _, rule in shops], [told for _, told, _ in shops], log)


class TestInterface(unittest.TestCase):
    def test_functions_are_defined_here_with_these_names(self):
        for function, names in ((market_text, ["rules", "prices", "log"]), (read_market, ["text"])):
            self.assertTrue(inspect.isfunction(function))
            self.assertEqual(function.__module__, "pricespin.papers")
            self.assertIs(getattr(module, function.__name__), function)
            self.assertEqual(list(inspect.signature(function).parameters), names)

    def test_arguments_by_name(self):
        self.assertEqual(market_text(rules=[plain(2)], prices=[1], log=[(0, 2)]), "a 1: 2\nlog\na 2\n")
        self.assertEqual(read_market(text="a 1: 2\nlog\na 2\n"), ([plain(2)], [1], [(0, 2)]))


class TestMarketText(unittest.TestCase):
    """[20]"""

    def test_some(self):
        self.assertEqual(market_text(*TOLD), TEXT)
        self.assertEqual(market_text([plain(-3)], [-7], []), "a -7: -3\nlog\n")
        self.assertEqual(market_text([price()], [0], [(0, 0), (0, -5)]), "a 0: a\nlog\na 0\na -5\n")
        # what the rules tell is of no matter
        self.assertEqual(market_text(BOOK, [1, 2], [(1, 9), (0, 7)]), "a 1: b + 5\nb 2: a + 3\nlog\nb 9\na 7\n")

    def test_as_put_together(self):
        draw = random.Random(211)
        for _ in range(100):
            rules = any_rules(draw, draw.randint(1, 6))
            prices = [draw.choice([0, draw.randint(-99, 99), 10 ** 41 - 1, 10 ** 199, -10 ** 199]) for _ in rules]
            log = [(draw.randrange(len(rules)), draw.randint(-99, 99)) for _ in range(draw.choice([0, 1, 5, 200]))]
            expected = ["{} {}: {}\n".format("abcdef"[shop], prices[shop], term_text(rule))
                        for shop, rule in enumerate(rules)]
            expected += ["log\n"] + ["{} {}\n".format("abcdef"[shop], told) for shop, told in log]
            self.assertEqual(kept(self, market_text, rules, prices, log), "".join(expected))

    def test_prices_with_many_digits(self):
        for zeros in (40, 41, 59, 60, 61, 119, 120, 199, 2000, 4299, 4300, 9000):
            number = 10 ** zeros
            digits = "1" + "0" * zeros
            self.assertEqual(market_text([plain(0)], [number], [(0, -number)]), f"a {digits}: 0\nlog\na -{digits}\n")
            digits = "9" * zeros
            self.assertEqual(market_text([plain(0)], [1 - number], []), f"a -{digits}: 0\nlog\n")
        self.assertEqual(market_text([plain(0)], [7 * 10 ** 120 + 5 * 10 ** 60], []),
                         "a 7" + "0" * 59 + "5" + "0" * 60 + ": 0\nlog\n")

    def test_no_rules(self):
        for rules in samples.NO_RULES:
            assert_raised(self, InvalidRules, market_text, rules, [0], [])
            assert_raised(self, InvalidRules, market_text, rules, None, None)

    def test_no_prices(self):
        for rules in ([plain()], BOOK, [price(0)] * 6):
            for prices in samples.no_prices(len(rules)):
                assert_raised(self, InvalidPrices, market_text, rules, prices, [])
                assert_raised(self, InvalidPrices, market_text, rules, prices, None)

    def test_no_log(self):
        for rules in ([plain(5)], BOOK, [price(0)] * 6):
            for log in samples.no_logs(len(rules)):
                assert_raised(self, InvalidLog, market_text, rules, [5] * len(rules), log)

    def test_lengths_of_logs(self):
        self.assertEqual(market_text([plain(5)], [0], [(0, 4)] * 200), "a 0: 5\nlog\n" + "a 4\n" * 200)
        assert_raised(self, InvalidLog, market_text, [plain(5)], [0], [(0, 4)] * 201)

    def test_no_rows_are_needed(self):
        self.assertEqual(read_market(market_text(BEYOND, [0] * 6, [])), (BEYOND, [0] * 6, []))


class TestReadMarket(unittest.TestCase):
    """[21]"""

    def assert_read(self, text, rules, prices, log):
        self.assertEqual(read_market(text), (rules, prices, log), text)

    def assert_wrong(self, text, line, reason):
        with self.subTest(text=text[:200]):
            with self.assertRaises(InvalidLine) as caught:
                read_market(text)
            self.assertEqual((caught.exception.line, caught.exception.reason), (line, reason))
            self.assertIs(caught.exception.__class__, InvalidLine)

    def test_what_market_text_writes(self):
        self.assert_read(TEXT, *TOLD)
        draw = random.Random(212)
        for _ in range(100):
            rules = any_rules(draw, draw.randint(1, 6))
            prices = [draw.choice([0, draw.randint(-99, 99), 10 ** 41 - 1, 1 - 10 ** 41]) for _ in rules]
            log = [(draw.randrange(len(rules)), draw.randint(-99, 99)) for _ in range(draw.choice([0, 1, 5, 200]))]
            self.assert_read(market_text(rules, prices, log), rules, prices, log)

    def test_blanks_and_lines_that_are_passed_over(self):
        for text in (TEXT[:-1], "\n" + TEXT, TEXT + "\n", TEXT + "   ", TEXT.replace("\n", "\n\n  \n"),
                     TEXT.replace(" ", "   "), TEXT.replace("\n", "  \n   "), TEXT.replace(":", "   :"),
                     TEXT.replace(": ", ":"), "   " + TEXT, TEXT.replace("log", "   log   "),
                     "a 90:least(b+5,100)\nb 88:a+3\nlog\na 93",
                     "\n\n\na  90 :  least ( b + 5 , 100 )\n  b   88   :a+3  \nlog\n\na 93"):
            self.assert_read(text, *TOLD)

    def test_any_text_that_read_term_takes(self):
        self.assert_read("a 0: rank2(a,-0,a + 0) \nlog", [("rank", 2, (price(), plain(), price()))], [0], [])
        self.assert_read("a 0:-  7\nlog", [plain(-7)], [0], [])
        for term in (nested(6), wide(40)):
            text = f"a 0:{term_text(term)}\n" + "".join(f"{letter} 0:1\n" for letter in "bcdef") + "log"
            self.assert_read(text, [term] + [plain(1)] * 5, [0] * 6, [])

    def test_no_string(self):
        for value in [None, True, 0, (), [], {}, [TEXT], (TEXT,), {0: TEXT}, 10 ** 199, samples.deep_tuple(50)]:
            with self.assertRaises(InvalidLine) as caught:
                read_market(value)
            self.assertEqual((caught.exception.line, caught.exception.reason), (0, "text"))

    def test_without_the_word_log(self):
        self.assert_wrong("", 1, "log")
        self.assert_wrong("   ", 1, "log")
        self.assert_wrong("\n", 2, "log")
        self.assert_wrong("\n \n\n", 4, "log")
        self.assert_wrong("a 1: a", 1, "log")
        self.assert_wrong("a 1: a\n", 2, "log")
        self.assert_wrong("a 1: a\nb 2: a\n\n", 4, "log")
        # a shop that is not there is not looked for
        self.assert_wrong("a 1: f\n", 2, "log")
        self.assert_wrong("\n".join(f"{letter} 0: 1" for letter in "abcdef"), 6, "log")

    def test_the_form_of_a_line(self):
        for line in ("a", "a 1", "a 1 a", ":", "::", " : 1", "a: 1", "a 1 2: 1", "a1: 1", "a 1 1 : 1", "log: 1",
                     "log log", "logs", "lo g", "Log", "log.", "log\t", "\tlog", "\t", "a\t1: 1", "a \t 1: 1",
                     "least(b + 5, 100)", "a:1: 1", "a :1: 1", "l o g", "log :", "a 1;1"):
            self.assert_wrong(line, 0, "line")
            self.assert_wrong(line + "\nlog\na 1", 0, "line")
            self.assert_wrong("a 5: 5\n\n" + line + "\nb 6: 6\nlog", 2, "line")

    def test_the_form_of_an_entry(self):
        for line in ("a", "a 1 1", "log", " log ", "a: 1: 1", "a1", "a 1 : 1", "a 1: a", "\t", "a\t1", "a 1 \t", "1",
                     ":"):
            self.assert_wrong(f"a 5: 5\nlog\n{line}", 2, "line")
            self.assert_wrong(f"a 5: 5\nlog\na 4\n\n{line}\nb", 4, "line")

    def test_the_letter_of_a_shop(self):
        for word in ("b", "A", "aa", "ab", "1", "-", "log", "\t", "f", "a.", "least", "abcdef"):
            self.assert_wrong(f"{word} 1: 1", 0, "shop")
            # ahead of the price and the rule
            self.assert_wrong(f"{word} x: ?", 0, "shop")
        for word in ("a", "c", "bc", "B", "log"):
            self.assert_wrong(f"a 1: 1\n{word} 1: 1\nlog", 1, "shop")
        six = "".join(f"{letter} 0: 1\n" for letter in "abcdef")
        self.assert_read(six + "log", [plain(1)] * 6, [0] * 6, [])
        for word in ("g", "a", "f", "-", "abcdefg", "log"):
            self.assert_wrong(f"{six}{word} 0: 1\nlog", 6, "shop")
        self.assert_wrong(f"{six}g 0 1: 1\nlog", 6, "line")

    def test_log_without_a_shop(self):
        self.assert_wrong("log", 0, "shop")
        self.assert_wrong("\n  \n log \na 1", 2, "shop")
        self.assert_wrong("log\nlog", 0, "shop")

    def test_the_letter_of_an_entry(self):
        for word in ("c", "ab", "A", "log", "1", "a:", ":", "\t", "abc", "f"):
            self.assert_wrong(f"a 1: 1\nb 2: 2\nlog\nb 1\n{word} 5", 4, "shop")
            self.assert_wrong(f"a 1: 1\nb 2: 2\nlog\nb 1\n{word} x", 4, "shop")

    def test_prices(self):
        nines = "9" * 41
        for word, told in (("0", 0), ("-1", -1), ("10", 10), (nines, 10 ** 41 - 1), ("-" + nines, 1 - 10 ** 41),
                           ("1" + "0" * 40, 10 ** 40)):
            self.assert_read(f"a {word}: 1\nlog\na {word}", [plain(1)], [told], [(0, told)])
        for word in ("-0", "00", "01", "-01", "+1", "1.0", "1-", "--1", "-", "x", "a", "1e5", "1_0", "1\t", "9" + nines,
                     "-9" + nines, "0" * 41, "1" + "0" * 41, "0x1", "log"):
            self.assert_wrong(f"a {word}: 1\nlog\n", 0, "price")
            # ahead of the rule
            self.assert_wrong(f"\na {word}: ?\nlog\n", 1, "price")
            self.assert_wrong(f"a 1: 1\nlog\na {word}", 2, "price")
        # behind the log a colon is a character like any other
        for word in ("1:", ":", "1:1", ":1"):
            self.assert_wrong(f"a 1: 1\nlog\na {word}", 2, "price")

    def test_rules(self):
        for rule in ("", "   ", "g", "lea", "least()", "a +", "1 1", ":", "a: 1", "a\t", "\ta", "least(a", "rank 0(a)",
                     "rank 2(a)", "1" + "0" * 31, "a + 1" + "0" * 30 + "1", "least(a, a, a, a, a, a, a)", "01", "A",
                     "least(" * 100 + "a" + ")" * 100, term_text(nested(6)).replace("a", "least(a)"), "(" * 100):
            self.assert_wrong(f"a 1:{rule}", 0, "rule")
            self.assert_wrong(f"a 1: 1\n\nb 1: {rule}\nlog\n", 2, "rule")

    def test_a_shop_that_is_not_there(self):
        self.assert_wrong("a 1: b\nlog", 0, "rule")
        self.assert_wrong("a 1: a\n\nb 1: least(a, 7, most(c, 1))\nlog", 2, "rule")
        self.assert_wrong("a 1: f\nb 1: f\nlog", 0, "rule")
        self.assert_read("a 1: b\nb 2: 3\nlog", [price(1), plain(3)], [1, 2], [])
        # ahead of what stands behind the line log, behind what stands ahead of it
        self.assert_wrong("a 1: b\nlog\nlog", 0, "rule")
        self.assert_wrong("a 1: c\nb x: 1\nlog\nlog", 1, "price")
        self.assert_wrong("a 1: c\nb 1: d\nc", 2, "line")
        self.assert_wrong("a 1: c\nb 1: 1\nb", 2, "line")

    def test_entries(self):
        self.assert_read("a 1: 1\nlog\n" + "a 5\n" * 200, [plain(1)], [1], [(0, 5)] * 200)
        self.assert_wrong("a 1: 1\nlog\n" + "a 5\n" * 201, 202, "log")
        self.assert_wrong("a 1: 1\nlog\n" + "a 5\n\n" * 250, 402, "log")
        # the last of the reasons
        for line, reason in (("a", "line"), ("b 5", "shop"), ("a x", "price"), ("a 5", "log")):
            self.assert_wrong("a 1: 1\nlog\n" + "a 5\n" * 200 + line, 202, reason)

    def test_the_first_wrong_line(self):
        self.assert_wrong("a 1: 1\nx\nb 1: ?\nlog\nx", 1, "line")
        self.assert_wrong("a 1: 1\nb 1: ?\nx\nlog\nx", 1, "rule")
        self.assert_wrong("a 1: 1\nlog\nb 1\nx", 2, "shop")
        self.assert_wrong("a 1: 1\nb 1: ?\n", 1, "rule")

    def test_as_read_slowly(self):
        draw = random.Random(213)
        found = {}
        pieces = ["a", "b", "c", "g", "1", "-", "0", " ", "  ", ":", "\n", "log", "\nlog\n", "\t", "(", ",", "least(",
                  ")", "a 5\n", "b 7", "d 4: a", "9" * 40]
        for _ in range(6000):
            rules = any_rules(draw, draw.randint(1, 4), 2)
            log = [(draw.randrange(len(rules)), draw.randint(-9, 9)) for _ in range(draw.randint(0, 3))]
            text = market_text(rules, [draw.randint(-9, 9) for _ in rules], log)
            if draw.random() < 0.1:
                text = text.replace("log\n", draw.choice(["", " ", "log \n" * 2]))
            for _ in range(draw.choice([0, 1, 1, 2, 3])):
                at = draw.randrange(len(text) + 1)
                text = text[:at] + draw.choice([*pieces, ""]) + text[at + draw.choice([0, 0, 1, 1, 4]):]
            expected = read_slowly(text)
            if len(expected) == 3:
                self.assert_read(text, *expected)
            else:
                self.assert_wrong(text, *expected)
            kind = expected[1] if len(expected) == 2 else "right"
            found[kind] = found.get(kind, 0) + 1
        self.assertEqual(sorted(found), ["line", "log", "price", "right", "rule", "shop"])
        self.assertGreater(min(found.values()), 20)

    def test_new_lists_and_equal_answers(self):
        samples.assert_new(self, TOLD, read_market, TEXT)

    def test_long_texts(self):
        for text in ("\n" * 10000, " " * 10000, "a" * 10000, "a 1:" + " " * 9990, ":" * 10000, "a " * 5000,
                     "log\n" * 2500, "a 1: 1\nlog\n" + "a 5\n" * 2400, "a 1: least(" + "a, " * 3000 + "a)\nlog",
                     "a " + "1" * 9990 + ": 1"):
            begun = time.monotonic()
            try:
                read_market(text)
            except InvalidLine:
                pass
            self.assertLess(time.monotonic() - begun, 1)

    def test_the_least_and_the_greatest_numbers(self):
        rules = [least(price(0, GREAT), plain(-GREAT))]
        self.assert_read(market_text(rules, [10 ** 40], []), rules, [10 ** 40], [])


if __name__ == "__main__":
    unittest.main()
