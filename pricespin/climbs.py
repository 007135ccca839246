"""How far prices can rise: the work behind the functions that tell something of it."""

from pricespin.errors import TooMany
from pricespin.rows import row_price, rows
from pricespin.terms import mirror, tell

_MOST_CHOICES = 20000
# A shop without an end comes to this bound but for a few adds; all others stay further below it.
_BOUND = 10 ** 33
_NEAR_BOUND = 10 ** 32


class Book:
    """Rules, each with the rows of which one can be chosen."""

    def __init__(self, terms, choices):
        self.terms = terms
        self.choices = choices

    def holding(self, shops):
        """A book in which these shops keep their prices."""
        terms = list(self.terms)
        choices = list(self.choices)
        for shop in shops:
            terms[shop] = ("price", shop, 0)
            choices[shop] = rows(terms[shop])
        return Book(terms, choices)

    def tops(self, prices):
        """The greatest price to which each shop can come, None where there is no end."""
        near = _bound_above(prices) - _NEAR_BOUND
        return [None if top > near else top for top in self.climb(prices)]

    def risers(self):
        """The ascending list of the shops whose price can rise without end."""
        tops = self.tops([0] * len(self.terms))
        return [shop for shop, top in enumerate(tops) if top is None]

    def climb(self, prices):
        """The greatest price to which each shop can come if no rule tells more than one great bound."""
        bound = _bound_above(prices)
        tops = [bound] * len(prices)
        lower = self.come_back(prices, tops)[1]
        while lower != tops:
            tops = _longest([_least_row(some, lower, bound) for some in self.choices], prices)
            lower = self.come_back(prices, tops)[1]
        return tops

    def come_back(self, prices, tops):
        """(order, reached): all that stand above prices are set one below tops; in this order they come back to it."""
        reached = [top - 1 if top > price else top for top, price in zip(tops, prices)]
        order = []
        shop = self._one_back(reached, tops)
        while shop is not None:
            order.append(shop)
            reached[shop] = tops[shop]
            shop = self._one_back(reached, tops)
        return order, reached

    def _one_back(self, reached, tops):
        """The first shop below its top that a repricing brings there, None if there is none."""
        for shop, top in enumerate(tops):
            if reached[shop] < top <= tell(self.terms[shop], reached):
                return shop
        return None


def choices_of(rules, most):
    """The rows of each rule; TooMany if a rule has too many, or all of them more choices than told."""
    choices = [rows(rule) for rule in rules]
    many = 1
    for some in choices:
        many = many * len(some)
    if many > most:
        raise TooMany("too many choices of one row of each rule")
    return choices


def book_of(rules):
    """The book of the rules; TooMany if a rule has too many rows, or all of them too many choices."""
    return Book(rules, choices_of(rules, _MOST_CHOICES))


def mirror_book(rules):
    """The book of the mirrors of the rules: by it prices rise as they fall by the rules."""
    return book_of([mirror(rule) for rule in rules])


def bottoms(mirrored, prices):
    """The least price to which each shop can come, by the book of the mirrors; None where there is no end."""
    turned = mirrored.tops([-price for price in prices])
    return [None if top is None else -top for top in turned]


def _bound_above(prices):
    return _BOUND + max([abs(price) for price in prices])


def _least_row(some, prices, bound):
    """The row that tells least of the prices; one more row tells just the bound."""
    return min([*some, ((), (bound,))], key=lambda row: row_price(row, prices))


def _longest(chosen, prices):
    """The least prices from these on that no chosen row raises; there must be an end."""
    reached = prices
    # A longest way that is no ring goes to each shop once: then no row raises a price any more.
    for _ in prices:
        reached = [max(price, row_price(row, reached)) for price, row in zip(prices, chosen)]
    return reached
