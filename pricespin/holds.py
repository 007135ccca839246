"""The fewest shops to be held so that no price runs away."""

from pricespin.checks import check_rules
from pricespin.climbs import book_of, mirror_book


def caps(rules):
    """The fewest shops, and the least list of so many, such that no price rises without end if they are held."""
    check_rules(rules)
    return _fewest_held(book_of(rules))


def floors(rules):
    """The fewest shops, and the least list of so many, such that no price falls without end if they are held."""
    check_rules(rules)
    return _fewest_held(mirror_book(rules))


def _fewest_held(book):
    lots = _lots(len(book.terms))
    at = 0
    # The last lot is that of all shops: without them nothing rises.
    while len(book.holding(lots[at]).risers()) > 0:
        at += 1
    return lots[at]


def _lots(many):
    """The ascending lists of some of so many shops, shorter ones first, and those of one length ascending."""
    lots = [[]]
    for shop in range(many):
        lots = lots + [lot + [shop] for lot in lots]
    return sorted(lots, key=lambda lot: (len(lot), lot))
