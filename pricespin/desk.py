"""A market at which prices and rules are changed, with all changes taken back at will."""

from pricespin.checks import check_market, check_shop, fits
from pricespin.ends import ends
from pricespin.errors import InvalidPrice, InvalidRules, NothingToRedo, NothingToUndo, UnknownDeed
from pricespin.quiet import is_quiet, quiet
from pricespin.terms import check_term, is_int, tell


class Market:
    """Rules and prices of shops, and the deeds that changed them."""

    def __init__(self, rules, prices):
        check_market(rules, prices)
        # One pair of rules and prices behind each deed. The list itself never changes: a trial goes back to it.
        self._moments = [(tuple(rules), tuple(prices))]
        self._now = 0

    @property
    def rules(self):
        """A new list of the rules."""
        return list(self._moments[self._now][0])

    @property
    def prices(self):
        """A new list of the prices."""
        return list(self._moments[self._now][1])

    def __len__(self):
        return len(self._moments[0][0])

    def __getitem__(self, at):
        check_shop(at, len(self))
        return self._moments[self._now][1][at]

    def __iter__(self):
        raise TypeError("a market is not iterated over")

    def reprice(self, shop):
        """Reprice the shop; return its new price less its old one."""
        check_shop(shop, len(self))
        prices = self.prices
        new = tell(self.rules[shop], prices)
        change = new - prices[shop]
        prices[shop] = new
        self._go_on(self.rules, prices)
        return change

    def put(self, shop, price):
        """Give the shop a price."""
        check_shop(shop, len(self))
        if not is_int(price):
            raise InvalidPrice("not an integer")
        prices = self.prices
        prices[shop] = price
        self._go_on(self.rules, prices)

    def exchange(self, shop, rule):
        """Give the shop another rule."""
        check_shop(shop, len(self))
        check_term(rule)
        if not fits(rule, len(self)):
            raise InvalidRules("not a term of the shops that there are")
        rules = self.rules
        rules[shop] = rule
        self._go_on(rules, self.prices)

    def undo(self):
        """Take back the last deed that has not been taken back."""
        if self._now == 0:
            raise NothingToUndo("no deed to take back")
        self._now = self._now - 1

    def redo(self):
        """Do again the deed that was taken back last."""
        if self._now + 1 == len(self._moments):
            raise NothingToRedo("no deed to do again")
        self._now = self._now + 1

    def reach(self):
        """For each shop (least, greatest), the prices to which it can come."""
        return ends(self.rules, self.prices)

    def rest(self):
        """(least, greatest): the quiet prices between which all lie that can be come to, or None."""
        return quiet(self.rules, self.prices)

    def is_calm(self):
        """Whether no repricing changes the prices."""
        return is_quiet(self.rules, self.prices)

    def trial(self):
        """For a with statement: if an error leaves the block, the market is as it was when it was entered."""
        return Trial(self)

    def _go_on(self, rules, prices):
        """Let these come behind the present moment, in the place of all deeds that were taken back."""
        self._moments = self._moments[:self._now + 1] + [(tuple(rules), tuple(prices))]
        self._now = self._now + 1


class Trial:
    """Blocks at whose end a market goes back to their beginning if an error leaves them."""

    def __init__(self, market):
        self._market = market
        self._entry = None

    def __enter__(self):
        self._entry = Entry(self._market._moments, self._market._now, self._entry)
        return self._market

    def __exit__(self, kind, value, trace):
        if kind is not None:
            self._market._moments = self._entry.moments
            self._market._now = self._entry.now
        self._entry = self._entry.outer


class Entry:
    """What a market was when a block was entered; outer is the entry of the block around it in the same trial."""

    def __init__(self, moments, now, outer):
        self.moments = moments
        self.now = now
        self.outer = outer


def try_all(market, deeds):
    """Do the deeds, one behind the other; none of them if one of them fails."""
    with market.trial():
        for deed in deeds:
            _do(market, deed)


def _do(market, deed):
    parts = list(deed) if isinstance(deed, tuple) else []
    form = (parts[:1], len(parts))
    if form == (["reprice"], 2):
        market.reprice(parts[1])
    elif form == (["put"], 3):
        market.put(parts[1], parts[2])
    elif form == (["exchange"], 3):
        market.exchange(parts[1], parts[2])
    elif form == (["undo"], 1):
        market.undo()
    elif form == (["redo"], 1):
        market.redo()
    else:
        raise UnknownDeed("not a deed")
