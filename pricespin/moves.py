"""Repricings, one behind the other."""

from pricespin.checks import check_market, check_order
from pricespin.errors import TooMany
from pricespin.terms import tell

_MOST_REPRICINGS = 1000


def along(rules, prices, order):
    """The list of the prices behind each repricing of the order."""
    check_market(rules, prices)
    check_order(order, len(rules), 0)
    return _steps(rules, prices, order)


def restless(rules, prices):
    """The ascending list of (shop, change) of the shops whose price would change at a repricing now."""
    check_market(rules, prices)
    changes = [(shop, tell(rule, prices) - prices[shop]) for shop, rule in enumerate(rules)]
    return [(shop, change) for shop, change in changes if change != 0]


def played(rules, prices, order):
    """(first, length, prices): what comes again if the order is gone through again and again."""
    check_market(rules, prices)
    check_order(order, len(rules), 1)
    present = prices
    reached = {}
    while tuple(present) not in reached:
        reached[tuple(present)] = len(reached)
        if len(reached) * len(order) > _MOST_REPRICINGS:
            raise TooMany("no prices have come again")
        present = _steps(rules, present, order)[-1]
    first = reached[tuple(present)]
    return (first, len(reached) - first, present)


def _steps(rules, prices, order):
    behind = []
    present = prices
    for shop in order:
        present = _repriced(rules, present, shop)
        behind.append(present)
    return behind


def _repriced(rules, prices, shop):
    """New prices: those behind a repricing of the shop."""
    changed = list(prices)
    changed[shop] = tell(rules[shop], prices)
    return changed
