"""Logs of repricings, held against what the rules tell."""

from pricespin.checks import check_log, check_market
from pricespin.terms import tell


def fault(rules, prices, log):
    """The least number of an entry that is not what the rule tells behind the entries ahead of it, or None."""
    check_market(rules, prices)
    check_log(log, len(rules))
    present = list(prices)
    for at, (shop, price) in enumerate(log):
        if tell(rules[shop], present) != price:
            return at
        present[shop] = price
    return None
