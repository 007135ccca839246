"""Terms: nested tuples, each of which tells a price."""

from pricespin.errors import InvalidPrices, InvalidTerm

_GREATEST_NUMBER = 10 ** 30
MOST_SHOPS = 6
_MOST_PARTS = 6
_MOST_TERMS = 40
_MOST_LEVELS = 6


def is_int(value):
    """Whether the value is an integer; True and False are none."""
    return isinstance(value, int) and not isinstance(value, bool)


def is_int_from(value, least, greatest):
    """Whether the value is an integer from least to greatest."""
    return is_int(value) and least <= value <= greatest


def is_number(value):
    """Whether the value is an integer that may stand in a term as add or number."""
    return is_int_from(value, -_GREATEST_NUMBER, _GREATEST_NUMBER)


def is_int_list(value, fewest, greatest):
    """Whether the value is a list of integers, of as few and as many as told."""
    return isinstance(value, list) and fewest <= len(value) <= greatest and all([is_int(item) for item in value])


def is_leaf(term):
    """Whether the term is a price or a plain number, which have no parts."""
    return term[0] == "price" or term[0] == "plain"


def parts_of(term):
    """The tuple of the terms of which the term is made."""
    if is_leaf(term):
        return ()
    return term[-1]


def is_term(value):
    """Whether the value is a term."""
    waiting = [(value, 1)]
    many = 0
    # What is no term may be large and deep: no more of it is looked at than a term may have.
    while waiting:
        part, level = waiting.pop()
        many += 1
        if many > _MOST_TERMS or level > _MOST_LEVELS or not _has_form(part):
            return False
        waiting.extend([(inner, level + 1) for inner in parts_of(part)])
    return True


def check_term(term):
    """Raise InvalidTerm if the value is not a term."""
    if not is_term(term):
        raise InvalidTerm("not a term")


def shops_in(term):
    """The ascending list of the shops whose price stands in the term."""
    check_term(term)
    return sorted(set(_all_shops(term)))


def told(term, prices):
    """What the term tells of the prices."""
    check_term(term)
    if not is_int_list(prices, 1, MOST_SHOPS) or max(_all_shops(term), default=0) >= len(prices):
        raise InvalidPrices("not a price for each shop of the term")
    return tell(term, prices)


def tell(term, prices):
    """What told returns, for a term and prices that are known to be right."""
    word = term[0]
    if word == "price":
        return prices[term[1]] + term[2]
    if word == "plain":
        return term[1]
    ascending = sorted([tell(part, prices) for part in term[-1]])
    if word == "least":
        return ascending[0]
    if word == "most":
        return ascending[-1]
    return ascending[term[1] - 1]


def mirror(term):
    """The term that tells with all signs turned what the term tells."""
    check_term(term)
    return _turned(term)


def raised(term, number):
    """The term with each add and each plain number greater by the number, for a term that is known to be right."""
    word = term[0]
    if word == "price":
        return ("price", term[1], term[2] + number)
    if word == "plain":
        return ("plain", term[1] + number)
    return term[:-1] + (tuple([raised(part, number) for part in term[-1]]),)


def _has_form(term):
    """Whether the value is a term, if its parts are terms."""
    if not isinstance(term, tuple) or len(term) == 0:
        return False
    word = term[0]
    if word == "price":
        return len(term) == 3 and is_int_from(term[1], 0, MOST_SHOPS - 1) and is_number(term[2])
    if word == "plain":
        return len(term) == 2 and is_number(term[1])
    if word == "rank":
        return len(term) == 3 and _are_parts(term[2]) and is_int_from(term[1], 1, len(term[2]))
    return (word == "least" or word == "most") and len(term) == 2 and _are_parts(term[1])


def _are_parts(value):
    return isinstance(value, tuple) and 1 <= len(value) <= _MOST_PARTS


def _all_shops(term):
    """The shop of each price in the term, from left to right."""
    if term[0] == "price":
        return [term[1]]
    return [shop for part in parts_of(term) for shop in _all_shops(part)]


def _turned(term):
    word = term[0]
    if word == "price":
        return ("price", term[1], -term[2])
    if word == "plain":
        return ("plain", -term[1])
    parts = tuple([_turned(part) for part in term[-1]])
    if word == "least":
        return ("most", parts)
    if word == "most":
        return ("least", parts)
    return ("rank", len(parts) + 1 - term[1], parts)
