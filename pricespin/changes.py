"""Rules exchanged for others: how far they lead, held against one another from all prices at the beginning."""

from pricespin.checks import check_rules
from pricespin.climbs import choices_of
from pricespin.errors import InvalidRules
from pricespin.rows import NO_ROW, joined, lowest_rows, rows_below, shifted, test_of

_MOST_CHOICES = 200


def top_rows(rules):
    """For each shop the rows that tell its greatest price by the prices at the beginning, None without end."""
    check_rules(rules)
    return _lowest_tops(_outcomes(choices_of(rules, _MOST_CHOICES)))


def trial_starts(rules):
    """Prices at the beginning by which alone other rules are held against these."""
    tops = [row for lot in top_rows(rules) if lot is not None for row in lot]
    return [test_of(row)[:len(rules)] for row in sorted(set(tops))]


def higher(one, other):
    """Prices at the beginning from which the one rules lead some shop higher than the other, None if none do."""
    one_tops, other_tops = _tops_of_both(one, other)
    for some, others in zip(one_tops, other_tops):
        parting = rows_below(some or [], others or [])
        if len(parting) > 0:
            return test_of(parting[0])[:len(one)]
    return None


def same_tops(one, other):
    """Whether both rules lead each shop to the same greatest price from all prices at the beginning."""
    one_tops, other_tops = _tops_of_both(one, other)
    return one_tops == other_tops


def spare_rows(rules):
    """For each shop the rows of its rule that can be left out, one alone, with no greatest price changed."""
    check_rules(rules)
    choices = choices_of(rules, _MOST_CHOICES)
    needed = _needed_rows(_outcomes(choices))
    return [[row for row in some if len(some) > 1 and (shop, row) not in needed] for shop, some in enumerate(choices)]


def _tops_of_both(one, other):
    check_rules(one)
    check_rules(other)
    if len(one) != len(other):
        raise InvalidRules("not as many shops in both")
    return top_rows(one), top_rows(other)


def _outcomes(choices):
    """(chosen, tops) for each choice of one row of each rule: the rows chosen, and how far they alone lead."""
    lots = [[]]
    for some in choices:
        lots = [chosen + [row] for chosen in lots for row in some]
    return [(chosen, _tops_of(chosen)) for chosen in lots]


def _tops_of(chosen):
    """For each shop the row that tells its greatest price if just these rows are its rules, None without end."""
    own = [(((shop, 0),), ()) for shop in range(len(chosen))]
    reached = own
    # So many steps go all the ways that are no rings, and round each ring once.
    for _ in chosen:
        reached = [joined(start, _put_in(row, reached)) for start, row in zip(own, chosen)]
    adds = [dict(row[0]) for row in reached]
    risers = [shop for shop in range(len(chosen)) if adds[shop][shop] > 0]
    return [None if any([shop in dict(row[0]) for shop in risers]) else row for row in reached]


def _put_in(row, reached):
    """The row with each shop's price exchanged for what the shop's reached row tells."""
    adds, plain = row
    told = ((), plain) if plain else NO_ROW
    for shop, add in adds:
        told = joined(told, shifted(reached[shop], add))
    return told


def _lowest_tops(outcomes):
    """For each shop those of its rows in all outcomes that lie above no other one, None if there are none."""
    lines = [tops for _, tops in outcomes]
    ended = [[row for row in column if row is not None] for column in zip(*lines)]
    return [lowest_rows(some) if some else None for some in ended]


def _needed_rows(outcomes):
    """The pairs (shop, row), as keys, without which one of the lowest tops comes of no choice any more."""
    makers = {}
    for chosen, tops in outcomes:
        for shop, row in enumerate(tops):
            makers.setdefault((shop, row), []).append(chosen)
    needed = {}
    for shop, some in enumerate(_lowest_tops(outcomes)):
        for row in some or []:
            for pair in _common_pairs(makers[(shop, row)]):
                needed[pair] = True
    return needed


def _common_pairs(lots):
    """The pairs (shop, row) that all of the lots have."""
    return [(shop, row) for shop, row in enumerate(lots[0]) if all([chosen[shop] == row for chosen in lots])]
