"""Rules that several test files use."""

from pricespin.terms import mirror
from pricespin.texts import read_term
from samples import GREAT, least, most, plain, price


def read_rules(*texts):
    return [read_term(text) for text in texts]


def mirrors(rules):
    return [mirror(rule) for rule in rules]


BOOK = [price(1, 5), price(0, 3)]
CAPPED = [least(price(1, 5), plain(100)), price(0, 3)]
SLOW = [least(price(1, 1), plain(GREAT)), price(0)]
PAIR = [most(least(price(1), plain(10)), plain(3)), most(least(price(0), plain(10)), plain(3))]

# Texts of rules with as many rows.
TWENTY, FIFTEEN, TEN = "rank 3(a, b, c, d, e, f)", "rank 2(a, b, c, d, e, f)", "rank 2(a, b, c, d, e)"
SIX, FIVE = "least(a, b, c, d, e, f)", "least(a, b, c, d, e)"

# 20,000 choices, and more; their mirrors have few.
JUST = read_rules(TWENTY, TWENTY, TEN, FIVE, "a", "b + 1")
BEYOND = read_rules(FIFTEEN, FIFTEEN, FIFTEEN, SIX, "a", "b + 1")
ROWS_BEYOND = read_rules(f"most({TWENTY}, least({TEN}, f))", "a", "b", "c", "d", "e")

# 67, 59 and 113 rows.
SIXTY_SEVEN = ("rank 2(rank 2(d + 8, -5, f + 6, 9, e + 2), rank 2(3, f - 6, e + 6, c + 4, b + 3), "
               "rank 3(b - 3, b + 4, c - 9, d - 7, d - 8))")
FIFTY_NINE = ("rank 2(rank 2(f - 5, b - 11, e - 17, d + 14, d + 6), rank 3(a + 15, d - 15, d + 3, c - 12, f - 16), "
              "rank 2(b - 2, e - 13, c + 1, f - 17))")
LONGEST = ("rank 2(rank 2(f + 15, 8, e + 5, f + 1, e + 10), rank 2(-11, a + 7, 9, b - 16, f + 7), "
           "rank 3(d + 16, c - 19, a + 4, b - 18, e - 11), rank 2(c - 9, f + 10))")

# 20,001 choices.
ONE_MORE = read_rules(LONGEST, FIFTY_NINE, "least(a, b - 3, 5)", "c - 1", "a + 2", "b")

# 200 choices, and more; their mirrors have other numbers.
TWO_HUNDRED = [
    read_rules(TWENTY, TEN, "a + 3", "b - 4", "least(c + 1, c + 2)", "most(d, e - 1, 7)"),
    read_rules("least(c, 4, b, a + 3, d)", "a - 1", TWENTY, "most(a, b - 2, c)", "least(c, e - 1)", "-9"),
]
FEW_MORE = [
    read_rules(SIXTY_SEVEN, "least(a, b - 3, 5)", "c - 1", "a + 2", "b", "9"),
    read_rules(FIFTEEN, "a", "rank 2(a, b, c, d, e, 4)", "d", "e - 1", "f"),
    read_rules(TEN, "least(a, b, c)", "least(a, 1, d, e, f, c)", "least(d, 4)", "e", "f"),
    read_rules(SIX, FIVE, SIX, "least(b, d)", "a", "b"),
]
