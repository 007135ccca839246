"""Rules that several test files use."""

from pricespin.terms import mirror
from pricespin.texts import read_term
from samples import GREAT, least, most, plain, price


def read_rules(*texts):
    return [read_term(text) for text in texts]


def mirrors(rules):
    return [mirror(rule) for rule in rules]


BOOK = [price(1, 5), price(0, 3)]
CAPPED = [least(price(1, 5), plain(100)), price(0, 3)]
SLOW = [least(price(1, 1), plain(GREAT)), price(0)]
PAIR = [most(least(price(1), plain(10)), plain(3)), most(least(price(0), plain(10)), plain(3))]

# Texts of rules with as many rows.
TWENTY, FIFTEEN, TEN = "rank 3(a, b, c, d, e, f)", "rank 2(a, b, c, d, e, f)", "rank 2(a, b, c, d, e)"
SIX, FIVE = "least(a, b, c, d, e, f)", "least(a, b, c, d, e)"

# 20,000 choices, and more; their mirrors have few.
JUST = read_rules(TWENTY, TWENTY, TEN, FIVE, "a", "b + 1")
BEYOND = read_rules(FIFTEEN, FIFTEEN, FIFTEEN, SIX, "a", "b + 1")
ROWS_BEYOND = read_rules(f"most({TWENTY}, least({TEN}, f))", "a", "b", "c", "d", "e")
