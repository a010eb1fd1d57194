"""Webs and values that several tests need. Nothing here imports the functions under test."""

from itertools import combinations

from liftedties.errors import Apart, BadText, BadWeb, Unfit

PATH = (4, ((0, 1), (1, 2), (2, 3)))
WING = (5, ((0, 1), (0, 2), (1, 2), (2, 3), (2, 4)))
FAR = 10 ** 399


def pairs(many):
    return tuple(combinations(range(many), 2))


def all_webs(many):
    """Every web of so many places."""
    of = pairs(many)
    return [
        (many, tuple(pair for at, pair in enumerate(of) if bits >> at & 1))
        for bits in range(2 ** len(of))
    ]


def empty_web(many):
    return (many, ())


def full_web(many):
    return (many, pairs(many))


def striped_web(many, step):
    """A web with an irregular lot of ties, another one for each step."""
    return (many, tuple(pair for pair in pairs(many) if (pair[0] * 7 + pair[1] * 5 + pair[0] * pair[1]) % step < 2))


def nested(depth, wrap):
    value = 7
    for _ in range(depth):
        value = wrap(value)
    return value


def any_values():
    """Values of all kinds that may be handed in as any value; none is a web, a deed or a text."""
    return [
        None, True, False, 0, 1, -1, 12, FAR, -FAR,
        "", "form", "0", "a line\nand another\n", "~ !\"#$%&'()*+,-./", "x" * 20000, "\n" * 20000,
        (), (None,), (0,), (0, 1), (True, False), (0, 1, 2), ("0", "1"), (None, None, None, None),
        [], [4, []], [(0, 1), (1, 2)], [0, 1, 2, 3], [None] * 3999,
        {}, {"many": 4, "ties": ()}, {4: ()}, {0: 0, 1: 1}, {None: [], True: {}, (0, 1): "x"},
        nested(20, lambda value: (value,)), nested(20, lambda value: [value]),
        nested(20, lambda value: {"in": value}), nested(20, lambda value: (value, value) if value == 7 else (value,)),
        (4, [(0, 1)]), (4, {}), (4, None), ("4", ()), (None, ()), (0, ()), (4, (), ()), ((4, ()),),
        ((0, 1), (1, 2)), (FAR, ()), (-FAR, ()), (0,) * 4000, ("form", ("tie", 0)),
        Unfit(), BadText(), BadWeb(("tie", 1)), Apart(paper=("odd", 0)),
    ]
