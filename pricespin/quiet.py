"""Quiet prices, which no repricing changes, and which of them prices can come to."""

from pricespin.checks import check_market, check_rules
from pricespin.climbs import book_of, bottoms, mirror_book
from pricespin.errors import InvalidNumber, NotQuiet
from pricespin.moves import restless
from pricespin.terms import is_int_from


def is_quiet(rules, prices):
    """Whether no repricing changes the prices."""
    return len(restless(rules, prices)) == 0


def quiet(rules, prices):
    """(least, greatest): the quiet prices between which all lie that can be come to; None if there may be no end."""
    check_market(rules, prices)
    return _between_ends(book_of(rules), mirror_book(rules), prices)


def sure(rules, prices):
    """The quiet prices at which all fair orders end, None if there are none such."""
    found = quiet(rules, prices)
    if found is None or found[0] != found[1]:
        return None
    return found[0]


def only_quiet(rules):
    """("none",), ("only", prices), or ("two", prices, others) with two neighbours, as there are quiet prices."""
    check_rules(rules)
    book = book_of(rules)
    mirrored = mirror_book(rules)
    found = _between_ends(book, mirrored, [0] * len(rules))
    # Repricings bring no prices further away from quiet ones: where there are such, no price is without end.
    if found is None:
        return ("none",)
    prices = found[0]
    # If others are quiet, too, some lie next to these, and then some with no price less, or with none greater.
    above = bottoms(mirrored, [price + 1 for price in prices])
    if above != prices:
        return ("two", prices, above)
    below = book.tops([price - 1 for price in prices])
    if below != prices:
        return ("two", prices, below)
    return ("only", prices)


def between(rules, one, other, near):
    """Quiet prices that differ from the one by at most near, and from the other by no more than the rest."""
    calm = [is_quiet(rules, one), is_quiet(rules, other)]
    if not all(calm):
        raise NotQuiet("not quiet")
    apart = max([abs(price - end) for price, end in zip(one, other)])
    if not is_int_from(near, 0, apart):
        raise InvalidNumber("not an integer from 0 to what they are apart")
    rest = apart - near
    return book_of(rules).tops([max(price - near, end - rest) for price, end in zip(one, other)])


def _between_ends(book, mirrored, prices):
    """What quiet returns, for rules by their book and that of their mirrors."""
    highest = book.tops(prices)
    lowest = bottoms(mirrored, prices)
    if None in highest or None in lowest:
        return None
    return (book.tops(lowest), bottoms(mirrored, highest))
