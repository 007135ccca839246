"""Markets as texts, written and read."""

from pricespin.checks import LONGEST_LOG, check_log, check_market, fits
from pricespin.errors import InvalidLine, InvalidTerm, InvalidText
from pricespin.texts import DIGITS, SHOPS, read_term, term_text

_LONGEST_PRICE = 41
# Python refuses to write out integers of many thousand digits at once.
_DIGITS_AT_ONCE = 60
_WRITTEN_AT_ONCE = 10 ** 60


def market_text(rules, prices, log):
    """The text of a market: a line for each shop, a line "log", and a line for each entry of the log."""
    check_market(rules, prices)
    check_log(log, len(rules))
    shops = [f"{SHOPS[shop]} {_written(prices[shop])}: {term_text(rule)}" for shop, rule in enumerate(rules)]
    entries = [f"{SHOPS[shop]} {_written(price)}" for shop, price in log]
    return "".join([line + "\n" for line in [*shops, "log", *entries]])


def read_market(text):
    """(rules, prices, log) of the text of a market."""
    if not isinstance(text, str):
        raise InvalidLine(0, "text")
    lines = text.split("\n")
    used = [(at, line) for at, line in enumerate(lines) if len(_words(line)) > 0]
    many = _lines_ahead_of_log(used)
    shops = [_read_shop(at, line, shop) for shop, (at, line) in enumerate(used[:many])]
    if many == len(used):
        raise InvalidLine(len(lines), "log")
    if many == 0:
        raise InvalidLine(used[0][0], "shop")
    rules = [rule for _, rule in shops]
    for (at, _), rule in zip(used, rules):
        if not fits(rule, many):
            raise InvalidLine(at, "rule")
    log = [_read_entry(at, line, many, ahead) for ahead, (at, line) in enumerate(used[many + 1:])]
    return (rules, [price for price, _ in shops], log)


def _lines_ahead_of_log(used):
    """How many of the lines stand ahead of the line "log"; all of them if there is none."""
    for many, (_, line) in enumerate(used):
        if _words(line) == ["log"]:
            return many
    return len(used)


def _words(line):
    return [word for word in line.split(" ") if word != ""]


def _read_shop(at, line, shop):
    """(price, rule) of a line for the shop."""
    head, colon, told = line.partition(":")
    words = _words(head)
    if colon == "" or len(words) != 2:
        raise InvalidLine(at, "line")
    # Behind the last letter the slice is empty, as no word is.
    if words[0] != SHOPS[shop:shop + 1]:
        raise InvalidLine(at, "shop")
    return (_read_price(at, words[1]), _read_rule(at, told))


def _read_entry(at, line, many, ahead):
    """(shop, price) of a line of the log, with so many shops and so many entries ahead of it."""
    words = _words(line)
    if len(words) != 2:
        raise InvalidLine(at, "line")
    letters = list(SHOPS[:many])
    if words[0] not in letters:
        raise InvalidLine(at, "shop")
    price = _read_price(at, words[1])
    if ahead >= LONGEST_LOG:
        raise InvalidLine(at, "log")
    return (letters.index(words[0]), price)


def _read_price(at, word):
    digits = word[1:] if word[0] == "-" else word
    if not 1 <= len(digits) <= _LONGEST_PRICE or not all([sign in DIGITS for sign in digits]):
        raise InvalidLine(at, "price")
    if digits[0] == "0" and word != "0":
        raise InvalidLine(at, "price")
    return int(word)


def _read_rule(at, told):
    try:
        return read_term(told)
    except (InvalidTerm, InvalidText):
        raise InvalidLine(at, "rule") from None


def _written(number):
    """The digits of the number, however many, with a sign ahead if it is less than 0."""
    sign = "-" if number < 0 else ""
    rest = abs(number)
    digits = ""
    while rest >= _WRITTEN_AT_ONCE:
        rest, last = divmod(rest, _WRITTEN_AT_ONCE)
        digits = str(last).zfill(_DIGITS_AT_ONCE) + digits
    return sign + str(rest) + digits
