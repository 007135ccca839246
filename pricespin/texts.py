"""Terms as texts, written and read."""

from pricespin.errors import InvalidText
from pricespin.terms import check_term, is_leaf

SHOPS = "abcdef"
_LETTERS = "abcdefghijklmnopqrstuvwxyz"
DIGITS = "0123456789"
_MOST_DIGITS = 31


def term_text(term):
    """The text of the term."""
    check_term(term)
    return _written(term)


def read_term(text):
    """The term of the text."""
    if not isinstance(text, str):
        raise InvalidText(0)
    reader = Reader(text)
    term = _read_whole(reader)
    if reader.peek() != "":
        raise InvalidText(reader.at)
    check_term(term)
    return term


class Reader:
    """A text, and the place up to which it has been read."""

    def __init__(self, text):
        self.text = text
        self.at = 0

    def peek(self):
        """Pass over blanks; return the character behind them, or "" at the end of the text."""
        while self.text[self.at:self.at + 1] == " ":
            self.at += 1
        return self.text[self.at:self.at + 1]

    def sign(self, allowed):
        """Read one of the allowed signs."""
        found = self.peek()
        if found == "" or found not in allowed:
            raise InvalidText(self.at)
        self.at += 1
        return found

    def word(self):
        """Read a word, "" if none stands here."""
        self.peek()
        found = self.run(_LETTERS)
        self.at += len(found)
        return found

    def number(self):
        """Read a number without a sign."""
        self.peek()
        digits = self.run(DIGITS)
        if digits == "":
            raise InvalidText(self.at)
        if digits[0] == "0":
            digits = "0"
        # Further digits stay unread: nothing that can follow begins with a digit, so they are wrong where they stand.
        digits = digits[:_MOST_DIGITS]
        self.at += len(digits)
        return int(digits)

    def run(self, allowed):
        """The allowed characters that stand here side by side; they stay unread."""
        end = self.at
        while end < len(self.text) and self.text[end] in allowed:
            end += 1
        return self.text[self.at:end]


def _written(term):
    word = term[0]
    if word == "price":
        return _written_price(term[1], term[2])
    if word == "plain":
        return str(term[1])
    name = f"rank {term[1]}" if word == "rank" else word
    parts = ", ".join([_written(part) for part in term[-1]])
    return f"{name}({parts})"


def _written_price(shop, add):
    if add == 0:
        return SHOPS[shop]
    sign = "-" if add < 0 else "+"
    return f"{SHOPS[shop]} {sign} {abs(add)}"


def _read_whole(reader):
    """Read a term with all its parts."""
    # A list of what is not closed instead of recursion: a text may have more brackets than a term has levels.
    unclosed = []
    term = None
    while term is None:
        start = _read_start(reader)
        if is_leaf(start):
            term = _close(reader, unclosed, start)
        else:
            reader.sign("(")
            unclosed.append((start, []))
    return term


def _close(reader, unclosed, term):
    """Read on behind a term: return the outermost one, or None where a comma announces another part."""
    while unclosed:
        start, parts = unclosed[-1]
        parts.append(term)
        if reader.sign(",)") == ",":
            return None
        unclosed.pop()
        term = start + (tuple(parts),)
    return term


def _read_start(reader):
    """Read a price or a plain number whole, and of any other term what stands ahead of its bracket."""
    word = reader.word()
    if word == "":
        return ("plain", _read_plain(reader))
    if word == "least" or word == "most":
        return (word,)
    if word == "rank":
        return (word, reader.number())
    if len(word) > 1 or word not in SHOPS:
        raise InvalidText(reader.at - len(word))
    return ("price", SHOPS.find(word), _read_add(reader))


def _read_plain(reader):
    if reader.peek() == "-":
        reader.sign("-")
        return -reader.number()
    return reader.number()


def _read_add(reader):
    if reader.peek() not in ("+", "-"):
        return 0
    sign = reader.sign("+-")
    number = reader.number()
    return -number if sign == "-" else number
