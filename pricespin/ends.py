"""How far prices can come, whatever the order of repricings."""

from pricespin.checks import check_market, check_rules
from pricespin.climbs import book_of, bottoms, mirror_book


def ends(rules, prices):
    """For each shop (least, greatest): the prices to which it can come, None where there is no end."""
    check_market(rules, prices)
    book = book_of(rules)
    mirrored = mirror_book(rules)
    return list(zip(bottoms(mirrored, prices), book.tops(prices)))


def last_round(rules, prices):
    """("endless", shops) if prices can rise without end, or ("round", order) with one round that shows the ends."""
    check_market(rules, prices)
    book = book_of(rules)
    tops = book.tops(prices)
    if None in tops:
        return ("endless", [shop for shop, top in enumerate(tops) if top is None])
    return ("round", book.come_back(prices, tops)[0])


def endless(rules):
    """(risers, fallers): the ascending lists of the shops whose price can rise, and fall, without end."""
    check_rules(rules)
    book = book_of(rules)
    mirrored = mirror_book(rules)
    return (book.risers(), mirrored.risers())


def endless_round(rules):
    """(prices, order): repricing all risers once makes each dearer; None if there are none."""
    check_rules(rules)
    book = book_of(rules)
    risers = book.risers()
    if len(risers) == 0:
        return None
    start = [0] * len(rules)
    held = book.holding([shop for shop in range(len(rules)) if shop not in risers])
    tops = held.climb(start)
    order, _ = held.come_back(start, tops)
    return ([top - 1 if shop in risers else 0 for shop, top in enumerate(tops)], order)
