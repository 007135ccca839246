"""Simple rules, the least or the greatest of prices with adds, told back from what they told."""

from pricespin.checks import check_prices
from pricespin.errors import InvalidKind, InvalidSeen
from pricespin.terms import MOST_SHOPS, is_int, is_int_list

_MOST_SEEN = 50


def fit_rule(kind, seen):
    """("rule", adds, number) that tells all that was seen, or ("fault", number) of the first that does not fit."""
    _check_seen(kind, seen)
    sign = _sign(kind)
    sights = _sights(sign, seen)
    wrong = _first_fault(sights)
    if wrong is not None:
        return ("fault", wrong)
    *adds, number = [sign * add for add in _least_adds(sights)]
    return ("rule", adds, number)


def foretell(kind, seen, prices):
    """(least, greatest): what a rule that tells all that was seen can tell of the prices; None if there is none."""
    _check_seen(kind, seen)
    check_prices(prices, len(seen[0][0]))
    sign = _sign(kind)
    sights = _sights(sign, seen)
    if _first_fault(sights) is not None:
        return None
    adds = _least_adds(sights)
    asked = _parts(adds, _line(sign, prices))
    # Of each sight at least one part stays that tells it: the others can be left out.
    greatest = min([max(_where_told(adds, sight, asked)) for sight in sights])
    least, greatest = sorted([sign * min(asked), sign * greatest])
    return (least, greatest)


def _check_seen(kind, seen):
    if kind != "least" and kind != "most":
        raise InvalidKind("not least or most")
    if not isinstance(seen, list) or not 1 <= len(seen) <= _MOST_SEEN:
        raise InvalidSeen("not a list of 1 to 50 tuples")
    if not all([_is_sight(item) for item in seen]):
        raise InvalidSeen("not prices and a price")
    if not all([len(prices) == len(seen[0][0]) for prices, _ in seen]):
        raise InvalidSeen("not as many prices in all")


def _is_sight(value):
    if not isinstance(value, tuple) or len(value) != 2:
        return False
    return is_int_list(value[0], 1, MOST_SHOPS) and is_int(value[1])


def _sign(kind):
    """The sign that makes rules of the kind such of the kind least."""
    return 1 if kind == "least" else -1


def _sights(sign, seen):
    """What was seen, for rules of the kind least."""
    return [(_line(sign, prices), sign * price) for prices, price in seen]


def _line(sign, prices):
    """The prices with the sign; one more stands for the number, which is told like the add of a price 0."""
    return [sign * price for price in prices] + [0]


def _least_adds(sights):
    """The least adds with which none of the parts tells less than was seen."""
    lines = [line for line, _ in sights]
    prices = [price for _, price in sights]
    return [max([price - own for price, own in zip(prices, column)]) for column in zip(*lines)]


def _parts(adds, line):
    return [own + add for own, add in zip(line, adds)]


def _first_fault(sights):
    """The least number of a sight that no rule tells with all ahead of it, or None."""
    for at in range(len(sights)):
        ahead = sights[:at + 1]
        adds = _least_adds(ahead)
        if any([min(_parts(adds, line)) != price for line, price in ahead]):
            return at
    return None


def _where_told(adds, sight, asked):
    """What is asked of those parts that tell the price that was seen."""
    line, price = sight
    return [answer for own, answer in zip(_parts(adds, line), asked) if own == price]
