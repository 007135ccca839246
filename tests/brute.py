"""Slow and plain ways to work out what the program tells, straight from the words of DOC.md."""

import itertools
import math
import re

from pricespin.terms import mirror


def is_whole(value):
    return type(value) is int


def sizes(value):
    """(terms, levels) of a value in the form of a term, by the words of [4]; None if it has not this form."""
    if type(value) is not tuple:
        return None
    match value:
        case ("price", shop, add) if is_whole(shop) and is_whole(add):
            return (1, 1) if 0 <= shop <= 5 and abs(add) <= 10 ** 30 else None
        case ("plain", number) if is_whole(number):
            return (1, 1) if abs(number) <= 10 ** 30 else None
        case ("least" | "most", tuple(parts)):
            pass
        case ("rank", k, tuple(parts)) if is_whole(k) and 1 <= k <= len(parts):
            pass
        case _:
            return None
    inner = [sizes(part) for part in parts]
    if None in inner or not 1 <= len(parts) <= 6:
        return None
    return 1 + sum(size[0] for size in inner), 1 + max(size[1] for size in inner)


def is_term(value):
    size = sizes(value)
    return size is not None and size[0] <= 40 and size[1] <= 6


def kth(values, k):
    """The k-th in ascending order, each as often as it stands there, by counting."""
    for value in values:
        lower = sum(other < value for other in values)
        if lower < k <= lower + values.count(value):
            return value
    raise AssertionError


def expected(term, prices):
    match term:
        case ("price", shop, add):
            return prices[shop] + add
        case ("plain", number):
            return number
        case ("least", parts):
            return kth([expected(part, prices) for part in parts], 1)
        case ("most", parts):
            return kth([expected(part, prices) for part in parts], len(parts))
        case ("rank", k, parts):
            return kth([expected(part, prices) for part in parts], k)


def is_above(one, other):
    """Whether the row one lies above the row other, by the words of [7]."""
    shops = all(shop in dict(one[0]) and dict(one[0])[shop] >= add for shop, add in other[0])
    return shops and (other[1] == () or (one[1] != () and one[1][0] >= other[1][0]))


def told_by_row(row, prices):
    return max([prices[shop] + add for shop, add in row[0]] + [number for number in row[1]])


def joined_rows(some):
    adds = {}
    for row in some:
        for shop, add in row[0]:
            adds[shop] = max(add, adds.get(shop, add))
    numbers = [number for row in some for number in row[1]]
    return (tuple(sorted(adds.items())), (max(numbers),) if numbers else ())


def counted_rows(term):
    """(rows, count): the rows of the term, and the greatest count at some term in it, by the words of [7]."""
    match term:
        case ("price", shop, add):
            return [(((shop, add),), ())], 1
        case ("plain", number):
            return [((), (number,))], 1
        case ("least", parts):
            k = 1
        case ("most", parts):
            k = len(parts)
        case ("rank", k, parts):
            pass
    inner = [counted_rows(part) for part in parts]
    lots = list(itertools.combinations([found for found, _ in inner], k))
    count = sum(math.prod(len(found) for found in lot) for lot in lots)
    greatest = max([count] + [below for _, below in inner])
    if greatest > 1000:
        return [], greatest
    made = {joined_rows(some) for lot in lots for some in itertools.product(*lot)}
    return sorted(row for row in made if not any(row != other and is_above(row, other) for other in made)), greatest


def greatest_add(rules):
    texts = re.findall(r"'price', \d, (-?\d+)", repr(rules))
    return max([0] + [int(text) for text in texts])


def greatest_number(rules):
    texts = re.findall(r"'plain', (-?\d+)", repr(rules))
    return max([int(text) for text in texts], default=None)


def rise(rules, prices):
    """The greatest price of each shop, None without end: prices go up by one step after the other."""
    known = [number for number in [greatest_number(rules), *prices] if number is not None]
    # A longest way that is no ring has at most six adds: who comes beyond has no end.
    limit = max(known) + 6 * greatest_add(rules)
    reached = list(prices)
    while True:
        raised = [max(price, expected(rule, reached)) for rule, price in zip(rules, reached)]
        raised = [math.inf if price > limit else price for price in raised]
        if raised == reached:
            return [None if price == math.inf else price for price in reached]
        reached = raised


def turned(rules, prices):
    return [mirror(rule) for rule in rules], [-price for price in prices]


def fall(rules, prices):
    """The least price of each shop, None without end."""
    return [None if price is None else -price for price in rise(*turned(rules, prices))]


def behind(rules, prices, order):
    """The prices behind the repricings of the order."""
    present = list(prices)
    for shop in order:
        present[shop] = expected(rules[shop], present)
    return present


def come_to(rules, prices):
    """The set of all prices to which these can come, each a tuple; there must be an end of them."""
    found = {tuple(prices)}
    waiting = [tuple(prices)]
    while waiting:
        present = waiting.pop()
        for shop in range(len(rules)):
            new = tuple(behind(rules, present, [shop]))
            if new not in found:
                found.add(new)
                waiting.append(new)
    return found


def choices(rules):
    return math.prod(len(counted_rows(rule)[0]) for rule in rules)


def lots_of(many):
    """All ascending lists of some of so many shops, shorter ones first, and those of one length ascending."""
    return [list(lot) for size in range(many + 1) for lot in itertools.combinations(range(many), size)]


def holding(rules, shops):
    return [("price", shop, 0) if shop in shops else rule for shop, rule in enumerate(rules)]


def is_quiet(rules, prices):
    return all(expected(rule, prices) == price for rule, price in zip(rules, prices))


def grid(shops, reach):
    """All prices of so many shops from -reach to reach."""
    return [list(prices) for prices in itertools.product(range(-reach, reach + 1), repeat=shops)]


def lots_that_lead_back(found, rules):
    """The sets of prices among those found that lead to one another, one for each."""
    steps = {prices: [tuple(behind(rules, prices, [shop])) for shop in range(len(rules))] for prices in found}
    order, passed = [], set()
    for root in found:
        waiting = [(root, False)]
        while waiting:
            prices, done = waiting.pop()
            if done:
                order.append(prices)
            elif prices not in passed:
                passed.add(prices)
                waiting.append((prices, True))
                waiting.extend((new, False) for new in steps[prices])
    sources = {prices: [] for prices in found}
    for prices in found:
        for new in steps[prices]:
            sources[new].append(prices)
    lots, taken = [], set()
    for root in reversed(order):
        lot, waiting = set(), [root]
        while waiting:
            prices = waiting.pop()
            if prices not in taken:
                taken.add(prices)
                lot.add(prices)
                waiting.extend(sources[prices])
        if lot:
            lots.append(lot)
    return lots


def surely_at(rules, prices):
    """The quiet prices at which all fair orders end, or None; there must be an end of what can be come to."""
    found = come_to(rules, prices)
    for lot in lots_that_lead_back(found, rules):
        # Each shop is repriced again and again and they still go round.
        if len(lot) > 1 and all(any(tuple(behind(rules, present, [shop])) in lot for present in lot)
                                for shop in range(len(rules))):
            return None
    quiet = [list(present) for present in found if is_quiet(rules, present)]
    return quiet[0] if len(quiet) == 1 else None


def term_of(some):
    """The term of a list of rows."""
    rows = [("most", tuple([("price", *pair) for pair in adds] + [("plain", number) for number in plain]))
            for adds, plain in some]
    return rows[0] if len(rows) == 1 else ("least", tuple(rows))
