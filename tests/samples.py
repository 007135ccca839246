"""Values that several test files use."""

import copy

import brute

GREAT = 10 ** 30


def price(shop=0, add=0):
    return ("price", shop, add)


def plain(number=0):
    return ("plain", number)


def least(*parts):
    return ("least", parts)


def most(*parts):
    return ("most", parts)


def rank(k, *parts):
    return ("rank", k, parts)


def nested(levels):
    """A term with as many levels, and as many terms in it."""
    term = price()
    for _ in range(levels - 1):
        term = least(term)
    return term


def wide(many):
    """A term with as many terms in it, 2 to 43, at 3 levels."""
    parts = []
    while many > 1:
        size = min(7, many - 1)
        parts.append(least(*[price(shop) for shop in range(size - 1)]) if size > 1 else plain(7))
        many -= size
    return most(*parts)


def deep_tuple(levels):
    value = None
    for _ in range(levels):
        value = (value,)
    return value


def deep_term(levels):
    """A value that has the form of a term at each of its many levels."""
    value = price()
    for level in range(levels):
        value = (rank(1, value), least(value), most(value))[level % 3]
    return value


def any_term(draw, levels=4, shops=6, great=5):
    kind = draw.choice(["price", "plain", "least", "most", "rank"]) if levels > 1 else draw.choice(["price", "plain"])
    if kind == "price":
        return price(draw.randrange(shops), draw.randint(-great, great))
    if kind == "plain":
        return plain(draw.randint(-great, great))
    parts = tuple(any_term(draw, levels - 1, shops, great) for _ in range(draw.randint(1, 3)))
    return (kind, draw.randint(1, len(parts)), parts) if kind == "rank" else (kind, parts)


def any_right_term(draw, levels=4, shops=6, great=5):
    """Like any_term, but surely a term."""
    while True:
        term = any_term(draw, levels, shops, great)
        if brute.is_term(term):
            return term


def any_rules(draw, shops, levels=3, great=5):
    """Rules that are seldom just a price or a number."""
    return [any_right_term(draw, draw.choice([1, levels, levels]), shops, great) for _ in range(shops)]


def level_rules(draw, shops, great=3):
    """Rules by which rings of adds mostly come to 0, so that there are many quiet prices."""
    heights = [draw.randint(-great, great) for _ in range(shops)]

    def part(shop, levels):
        if levels == 1 or draw.random() < 0.2:
            other = draw.randrange(shops)
            if draw.random() < 0.1:
                return plain(draw.randint(-great, great))
            return price(other, heights[shop] - heights[other] + draw.choice([0, 0, 0, 0, 0, 0, -1, 1]))
        parts = [part(shop, levels - 1) for _ in range(draw.randint(2, 3))]
        return draw.choice([least(*parts), most(*parts), rank(draw.randint(1, len(parts)), *parts)])

    return [part(shop, draw.choice([1, 2, 3])) for shop in range(shops)]


def bounded(rules, low, high):
    """Rules by which no price leaves these bounds, if the deepest rule has levels and terms left."""
    return [least(most(rule, plain(low)), plain(high)) for rule in rules]


def scaled(value, factor):
    """The term, or the list of terms, with each add and number so many times as great."""
    if isinstance(value, list):
        return [scaled(term, factor) for term in value]
    match value:
        case ("price", shop, add):
            return ("price", shop, add * factor)
        case ("plain", number):
            return ("plain", number * factor)
    return value[:-1] + (tuple(scaled(part, factor) for part in value[-1]),)


TERMS = [
    price(), price(5, GREAT), price(3, -GREAT), price(1, 1), plain(), plain(GREAT), plain(-GREAT),
    least(plain()), most(price(2)), rank(1, price(4)), least(price(1, -1), most(price(2, 5), plain(100))),
    rank(2, price(), price(1), price(2)), rank(6, *[price(shop, -shop) for shop in range(6)]),
    least(*[plain(n) for n in range(6)]), most(*[price(shop) for shop in (5, 3, 3, 0, 5, 1)]),
    nested(2), nested(6), wide(8), wide(40), rank(3, least(price(), price()), rank(1, plain(-1)), most(plain(2))),
]

# What may stand in the place of anything, and is right in few of them.
ODD_VALUES = [
    None, True, False, 6, -1, GREAT + 1, -GREAT - 1, 10 ** 199, "", "a", "price", "x" * 2000, (), [], {},
    [0], {"price": 0},
    ("price",), ("price", 0, 0), [("price", 0, 0)], (("price", 0, 0),), {0: ("plain", 1)}, (0,) * 1100, [0] * 1100,
    deep_tuple(50), [deep_tuple(49)], deep_term(24), [[[None] * 50] * 50],
]

NO_TERMS = [
    None, True, False, 0, -3, 10 ** 199, "", "price", "least(a, b)", (), (0,), [], {}, {"price": 0}, b"price",
    # the whole is a list or a dict
    ["price", 0, 0], ["plain", 0], ["least", (plain(),)], {"price": (0, 0)}, [price()], (price(),),
    # the word
    ("Price", 0, 0), ("", 0, 0), (None, 0, 0), (True, 0, 0), (0, 0, 0), (["price"], 0, 0), (("price",), 0, 0),
    ({"price": 1}, 0, 0), ("number", 1), ("lea", (plain(),)), ("max", (plain(),)), (None, 1), (["least"], (plain(),)),
    ({}, 1, (plain(),)), (False, (plain(),)), ("greatest", (plain(),)), ("a", 0), ("price" + " ", 0, 0),
    # the length
    ("price",), ("price", 0), ("price", 0, 0, 0), ("plain",), ("plain", 0, 0), ("least",), ("least", (plain(),), 0),
    ("least", plain(), plain()), ("most",), ("most", (plain(),), (plain(),)), ("rank",), ("rank", 1),
    ("rank", (plain(),)), ("rank", 1, (plain(),), 0), ("least", 1, (plain(),)), ("price", 0, 0) * 366,
    # the shop
    price(6), price(-1), price(10 ** 199), price(None), price(True), price(False), price("0"), price("a"), price((0,)),
    price([0]), price({}),
    # add and number
    price(0, GREAT + 1), price(0, -GREAT - 1), price(0, 10 ** 199), price(0, -10 ** 199), price(0, None),
    price(0, True), price(0, False), price(0, "1"), price(0, (1,)), price(0, [1]), price(0, {1: 1}),
    plain(GREAT + 1), plain(-GREAT - 1), plain(10 ** 199), plain(-10 ** 199), plain(None), plain(True), plain(False),
    plain("1"), plain((1,)), plain([1]), plain({1: 1}), plain(plain(1)),
    # the parts
    ("least", ()), ("most", ()), ("rank", 1, ()), ("rank", 0, ()), least(*[plain()] * 7), most(*[plain()] * 7),
    rank(1, *[plain()] * 7), rank(7, *[plain()] * 7), least(*[plain()] * 1100), ("least", [plain()]),
    ("most", [plain(), price()]),
    ("rank", 1, [plain()]), ("least", None), ("least", True), ("least", 1), ("least", "a"), ("least", {}),
    ("least", {plain(): plain()}), ("least", plain()), ("rank", 1, plain()), ("rank", 1, "abc"), ("rank", 1, None),
    # k
    rank(0, plain()), rank(-1, plain()), rank(2, plain()), rank(4, plain(), plain(), plain()), rank(10 ** 199, plain()),
    rank(None, plain()), rank(True, plain()), rank(False, plain()), rank("1", plain()), rank((1,), plain()),
    rank([1], plain()), rank({}, plain()),
    # one part
    least(None), least(True), least(1), least("a"), least([]), least({}), least(()), least(plain(), None),
    most(price(), False), rank(1, plain(), 0), rank(1, "price"), least(["plain", 0]), least(plain(), least(price(6))),
    most(least(plain(True))), rank(2, plain(), rank(2, plain())), least(plain(), most(least(rank(1, ["plain", 1])))),
    # terms and levels
    wide(41), wide(42), nested(7), nested(8), least(plain(), nested(6)), rank(1, nested(6)), most(nested(6), plain()),
    least(*[most(*[least(*[plain()] * 6)] * 6)] * 6), deep_term(6), deep_term(24), deep_tuple(50),
]


NO_RULES = [
    None, True, 0, 1, "", "a", "least(a, b)", (), {}, [], (price(),), (price(), price(1)), price(), {0: price()},
    [price()] * 7, [price()] * 1100, [[price()]], [[]], [None], [price(), None], [True], [0], [""], ["a"], [()], [{}],
    # shops that there are not
    [price(1)], [price(5)], [price(), price(2)], [plain(), least(price(), price(3)), price(2)],
    [most(plain(1), least(plain(2), price(1, -GREAT)))], [price(shop) for shop in (1, 2, 3, 4, 5, 5, 5)],
    [price(1), price(2), price(3), price(4), price(5)],
    *[[term] for term in NO_TERMS], *[[price(1), term] for term in NO_TERMS],
    *[value for value in ODD_VALUES if value != [price()]],
]


def no_prices(many):
    """What are no prices beside so many rules."""
    right = [0] * many
    return [
        *[value for value in ODD_VALUES if many != 1 or value != [0]], right + [0], right[1:], [0] * 7, [0] * 1100,
        tuple(right), dict(enumerate(right)), "0" * many, right[1:] + [True], right[1:] + [False], right[1:] + [None],
        [None] + right[1:], right[1:] + ["0"], right[1:] + [(0,)], right[1:] + [[0]], right[1:] + [{}], [right], [()],
    ]


def no_orders(many):
    """What are no orders of so many shops."""
    return [
        *[value for value in ODD_VALUES if value != [] and value != [0] and value != [0] * 1100], (0,), (0, 0),
        [many], [-1], [0, many], [0] * 999 + [many], [0] * 1001, [0] * 1100, [True], [False], [0, False], [None],
        [0, None], ["0"], ["a"], [(0,)], [[0]], [{}], [10 ** 199], [-10 ** 199], {0: 0},
    ]


def no_shops(many):
    """What are no numbers of so many shops."""
    odd = [value for value in ODD_VALUES if value != 6]
    return [*odd, many, -1, many + 1, 7, 10 ** 199, -10 ** 199, "0", (0,), b""]


def no_logs(many):
    """What are no logs of so many shops."""
    right = (0, 5)
    wrong = [
        (0,), (0, 5, 5), (many, 5), (-1, 5), (10 ** 199, 5), (True, 5), (False, 5), (None, 5), ("a", 5), ("0", 5),
        ([0], 5), ((0,), 5), ({}, 5), (0, None), (0, True), (0, False), (0, "5"), (0, [5]), (0, (5,)), (0, {}), [0, 5],
        {0: 5}, (), "a5", (right, right),
    ]
    return [
        *[value for value in ODD_VALUES if value != []], (right,), {0: right}, {right: right}, [right] * 201,
        [right] * 1100, [[right]], *[[entry] for entry in wrong], *[[right, entry] for entry in wrong],
        *[[right] * 199 + [entry] for entry in wrong], *[[value] for value in ODD_VALUES],
    ]


def replaced(value):
    """Each value that comes of the term by an odd one in the place of one of its items, at any level."""
    if not isinstance(value, tuple):
        return
    for at, item in enumerate(value):
        for odd in ODD_VALUES:
            yield value[:at] + (odd,) + value[at + 1:]
        for other in replaced(item):
            yield value[:at] + (other,) + value[at + 1:]
    for odd in ODD_VALUES:
        yield value + (odd,)
    yield value[:-1]
    yield list(value)


def assert_raised(case, error, function, *arguments):
    """That the function raises this error, no other one, and leaves its arguments as they are."""
    with case.subTest(arguments=repr(arguments)[:200]):
        with case.assertRaises(error) as caught:
            kept(case, function, *arguments)
        case.assertIs(caught.exception.__class__, error)


def assert_new(case, answer, function, *arguments):
    """That no list of the answer stands there twice, or in an argument, or in a later answer."""
    told = list(lists_in(function(*arguments)))
    case.assertEqual(len({id(part) for part in told}), len(told))
    for given in arguments:
        for part in told:
            case.assertFalse(any(part is other for other in lists_in(given)))
    for part in told:
        part.clear()
    case.assertEqual(function(*arguments), answer)


def lists_in(value):
    """Each list and dict in the value, itself included."""
    if isinstance(value, (list, dict)):
        yield value
    if isinstance(value, (list, tuple)):
        for item in value:
            yield from lists_in(item)


def kept(case, function, *arguments):
    """What the function returns or raises, and that it leaves its arguments as they are."""
    before = copy.deepcopy(arguments)
    try:
        return function(*arguments)
    finally:
        case.assertEqual(arguments, before)
        case.assertEqual(repr(arguments), repr(before))
