"""Whether values are rules, and prices, shops, orders and logs that fit them."""

from pricespin.errors import InvalidLog, InvalidOrder, InvalidPrices, InvalidRules, InvalidShop
from pricespin.terms import MOST_SHOPS, is_int, is_int_from, is_int_list, is_term, shops_in

_LONGEST_ORDER = 1000
LONGEST_LOG = 200


def check_rules(rules):
    """Raise InvalidRules if the value is not a list of rules."""
    if not isinstance(rules, list) or not 1 <= len(rules) <= MOST_SHOPS:
        raise InvalidRules("not a list of 1 to 6 rules")
    if not all([is_term(rule) and fits(rule, len(rules)) for rule in rules]):
        raise InvalidRules("not a term of the shops that there are")


def check_market(rules, prices):
    """Raise InvalidRules if the one is not a list of rules, InvalidPrices if the other is not one of their prices."""
    check_rules(rules)
    check_prices(prices, len(rules))


def check_prices(prices, many):
    """Raise InvalidPrices if the value is not a list of as many prices."""
    if not is_int_list(prices, many, many):
        raise InvalidPrices("not a list of as many prices")


def check_shop(shop, many):
    """Raise InvalidShop if the value is not the number of one of so many shops."""
    if not is_shop(shop, many):
        raise InvalidShop("not the number of a shop")


def check_order(order, many, fewest):
    """Raise InvalidOrder if the value is not an order of so many shops, with no fewer numbers than told."""
    if not isinstance(order, list) or not fewest <= len(order) <= _LONGEST_ORDER:
        raise InvalidOrder("not a list of so many numbers")
    if not all([is_shop(shop, many) for shop in order]):
        raise InvalidOrder("not the number of a shop")


def check_log(log, many):
    """Raise InvalidLog if the value is not a log of so many shops."""
    if not isinstance(log, list) or len(log) > LONGEST_LOG:
        raise InvalidLog("not a list of 0 to 200 entries")
    if not all([_is_entry(entry, many) for entry in log]):
        raise InvalidLog("not a shop and its price")


def is_shop(value, many):
    """Whether the value is the number of one of so many shops."""
    return is_int_from(value, 0, many - 1)


def fits(term, many):
    """Whether only the first so many shops stand in the term."""
    return all([shop < many for shop in shops_in(term)])


def _is_entry(value, many):
    return isinstance(value, tuple) and len(value) == 2 and is_shop(value[0], many) and is_int(value[1])
