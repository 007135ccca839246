"""Rules as values: they are added to, joined, turned and compared by signs."""

from pricespin.errors import InvalidNumber
from pricespin.rows import alike, matters, never_above
from pricespin.terms import MOST_SHOPS, check_term, is_int_from, is_number, mirror, raised, told


class Rule:
    """A term that does not change."""

    def __init__(self, term):
        check_term(term)
        self._term = term

    @property
    def term(self):
        """The tuple that the rule holds."""
        return self._term

    def __call__(self, prices):
        """What the rule tells of the prices."""
        return told(self._term, prices)

    def __add__(self, other):
        _check_number(other)
        return Rule(raised(self._term, other))

    def __radd__(self, other):
        return self + other

    def __sub__(self, other):
        _check_number(other)
        return Rule(raised(self._term, -other))

    def __and__(self, other):
        return Rule(("least", (self._term, _term_of(other))))

    def __or__(self, other):
        return Rule(("most", (self._term, _term_of(other))))

    def __neg__(self):
        return Rule(mirror(self._term))

    def __eq__(self, other):
        if not isinstance(other, Rule):
            return False
        return alike(self._term, other._term)

    def __contains__(self, x):
        return is_int_from(x, 0, MOST_SHOPS - 1) and x in matters(self._term)

    def within(self, other):
        """Whether the rule never tells more than the other one, or than the integer."""
        return never_above(self._term, _term_of(other))


def _check_number(value):
    if not is_number(value):
        raise InvalidNumber("not an integer from -10 ** 30 to 10 ** 30")


def _term_of(value):
    """The term of a Rule or of an integer; of anything else it is none."""
    if isinstance(value, Rule):
        return value.term
    return ("plain", value)
