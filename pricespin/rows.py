"""Rows: every term as the least of rows, each of which tells the greatest of some prices."""

from pricespin.errors import TooMany
from pricespin.terms import MOST_SHOPS, check_term, parts_of, shops_in

_MOST_ROWS = 200
# Joined with a row, it leaves the row as it is.
NO_ROW = ((), ())
# Further from nought than any number of a term, also behind six of them; the second one also behind the first one.
_LOW = -10 ** 31
_HIGH = 10 ** 32


def rows(term):
    """The ascending list of the rows of the term."""
    check_term(term)
    return _rows_of(term)


def never_above(one, other):
    """Whether the one term never tells more than the other one."""
    one_rows, other_rows = _rows_of_both(one, other)
    return len(rows_below(one_rows, other_rows)) == 0


def alike(one, other):
    """Whether both terms tell the same for all prices."""
    one_rows, other_rows = _rows_of_both(one, other)
    return one_rows == other_rows


def parting(one, other):
    """Prices for which the terms tell unlike prices, None if there are none such."""
    one_rows, other_rows = _rows_of_both(one, other)
    unlike = rows_below(one_rows, other_rows) + rows_below(other_rows, one_rows)
    if len(unlike) == 0:
        return None
    many = max(shops_in(one) + shops_in(other), default=0) + 1
    return test_of(unlike[0])[:many]


def matters(term):
    """The ascending list of the shops on whose price hangs what the term tells."""
    return sorted(set([shop for adds, _ in rows(term) for shop, _ in adds]))


def tests(term):
    """Prices of six shops for each row of the term, by which alone terms are held against this one."""
    return [test_of(row) for row in rows(term)]


def row_price(row, prices):
    """What the row tells of the prices."""
    adds, plain = row
    return max([prices[shop] + add for shop, add in adds] + list(plain))


def lies_above(one, other):
    """Whether the one row lies above the other one: never tells less."""
    if one[1] < other[1]:
        return False
    adds = dict(one[0])
    for shop, add in other[0]:
        if shop not in adds or adds[shop] < add:
            return False
    return True


def lowest_rows(some):
    """The ascending list of those of the rows that lie above no other one."""
    unlike = sorted(set(some))
    return [row for row in unlike if not any([other != row and lies_above(row, other) for other in unlike])]


def joined(one, other):
    """The row that tells the greater one of what the two tell."""
    adds = dict(one[0])
    for shop, add in other[0]:
        adds[shop] = max(add, adds.get(shop, add))
    return (tuple(sorted(adds.items())), max(one[1], other[1]))


def shifted(row, number):
    """The row that tells more than this one by the number."""
    adds, plain = row
    return (tuple([(shop, add + number) for shop, add in adds]), tuple([own + number for own in plain]))


def rows_below(some, others):
    """Those of the other rows that lie above none of some: their tests are told less by them."""
    return [row for row in others if not any([lies_above(row, other) for other in some])]


def test_of(row):
    """Prices of which this row tells less than any row that it does not lie above."""
    adds, plain = row
    price = plain[0] if plain else _LOW
    prices = [_HIGH] * MOST_SHOPS
    for shop, add in adds:
        prices[shop] = price - add
    return prices


def _rows_of_both(one, other):
    check_term(one)
    check_term(other)
    return _rows_of(one), _rows_of(other)


def _rows_of(term):
    if term[0] == "price":
        return [((term[1:],), ())]
    if term[0] == "plain":
        return [((), term[1:])]
    lists = [_rows_of(part) for part in parts_of(term)]
    k = _place(term)
    if _count([len(some) for some in lists], k) > _MOST_ROWS:
        raise TooMany("too many rows")
    return lowest_rows(_joins(lists, k))


def _place(term):
    """The k with which the term is the k-th of its parts."""
    if term[0] == "least":
        return 1
    if term[0] == "most":
        return len(term[1])
    return term[1]


def _count(counts, k):
    """The products of each lot of k of the counts, added."""
    if k == 0:
        return 1
    if len(counts) < k:
        return 0
    return counts[0] * _count(counts[1:], k - 1) + _count(counts[1:], k)


def _joins(lists, k):
    """The k-th of what the lists tell is the least of these: one row each of k of the lists, joined."""
    if k == 0:
        return [NO_ROW]
    if len(lists) < k:
        return []
    with_first = [joined(row, other) for other in _joins(lists[1:], k - 1) for row in lists[0]]
    return with_first + _joins(lists[1:], k)
