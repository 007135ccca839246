"""How great a price may be at the beginning, so that all prices keep within limits."""

from pricespin.checks import check_market, check_shop
from pricespin.climbs import book_of
from pricespin.errors import InvalidLimits
from pricespin.terms import is_int

# Further than a shop's price can lead another one above or below it: a longest way has at most five adds.
_FAR = 10 ** 31


def greatest_start(rules, prices, shop, limits):
    """("most", price), ("any",) or ("none",): which prices of the shop keep all prices within the limits."""
    check_market(rules, prices)
    check_shop(shop, len(rules))
    _check_limits(limits, len(rules))
    opening = Opening(book_of(rules), prices, shop, limits)
    bounds = sorted([limit for limit in limits if limit is not None])
    if len(bounds) > 0 and not opening.is_right(bounds[0] - _FAR):
        return ("none",)
    # The greatest right price is less than far from some limit, so also from the first one so far behind which
    # prices are wrong.
    for bound in bounds:
        if not opening.is_right(bound + _FAR):
            return ("most", opening.greatest_right(bound - _FAR, bound + _FAR))
    return ("any",)


class Opening:
    """A market in which one shop's price at the beginning is open, and limits for all prices."""

    def __init__(self, book, prices, shop, limits):
        self.book = book
        self.start = prices
        self.shop = shop
        self.limits = limits

    def is_right(self, price):
        """Whether no price comes beyond its limit if the open one is this."""
        start = list(self.start)
        start[self.shop] = price
        return not any([_is_beyond(top, limit) for top, limit in zip(self.book.tops(start), self.limits)])

    def greatest_right(self, right, wrong):
        """The greatest right price, from a right one and a greater wrong one."""
        while wrong - right > 1:
            middle = (right + wrong) // 2
            if self.is_right(middle):
                right = middle
            else:
                wrong = middle
        return right


def _is_beyond(top, limit):
    """Whether the greatest price, None without end, is beyond the limit, None for no limit."""
    return limit is not None and (top is None or top > limit)


def _check_limits(limits, many):
    if not isinstance(limits, list) or len(limits) != many:
        raise InvalidLimits("not a limit for each shop")
    if not all([limit is None or is_int(limit) for limit in limits]):
        raise InvalidLimits("not an integer or None")
