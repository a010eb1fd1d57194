"""Webs and values that several tests need. Nothing here imports the functions under test."""

from itertools import combinations, permutations

from liftedties.errors import Apart, BadText, BadWeb, Unfit

PATH = (4, ((0, 1), (1, 2), (2, 3)))
WING = (5, ((0, 1), (0, 2), (1, 2), (2, 3), (2, 4)))
NET = (5, ((0, 1), (0, 2), (3, 4)))
LOW, HIGH = (4, ((0, 1), (0, 2), (1, 2))), (4, ((0, 1), (0, 3), (1, 3)))
LEFT, RIGHT = (6, ((0, 1), (0, 2), (1, 2))), (6, ((3, 4), (3, 5), (4, 5)))
FAR = 10 ** 399


def pairs(many):
    return tuple(combinations(range(many), 2))


def all_webs(many):
    """Every web of so many places."""
    of = pairs(many)
    return [
        (many, tuple(pair for at, pair in enumerate(of) if bits >> at & 1))
        for bits in range(2 ** len(of))
    ]


def empty_web(many):
    return (many, ())


def full_web(many):
    return (many, pairs(many))


def striped_web(many, step):
    """A web with an irregular lot of ties, another one for each step."""
    return (many, tuple(pair for pair in pairs(many) if (pair[0] * 7 + pair[1] * 5 + pair[0] * pair[1]) % step < 2))


def tied_in(web, place, mate):
    return (place, mate) in web[1] or (mate, place) in web[1]


def told_apart(web, place, one, other):
    """What [B1] says: another place than both, tied to just one of them."""
    return place not in (one, other) and tied_in(web, place, one) + tied_in(web, place, other) == 1


def deeds_of(web):
    """All quadruples that are deeds of the web by [B1], ascending."""
    return [
        (a, d, b, c) for a, d, b, c in permutations(range(web[0]), 4)
        if told_apart(web, b, a, d) and told_apart(web, c, a, d)
    ]


def lifts_of(web):
    """Those of them in which both places that change sides were tied to the same one."""
    return [(a, d, b, c) for a, d, b, c in deeds_of(web) if tied_in(web, a, b) == tied_in(web, a, c)]


def behind(web, deed):
    """The web behind a deed: of its two places b and c each changes from a to d, or from d to a."""
    a, d, b, c = deed
    turned = {tuple(sorted(pair)) for pair in ((a, b), (a, c), (d, b), (d, c))}
    return (web[0], tuple(sorted(set(web[1]) ^ turned)))


def renamed(web, names):
    """The web with its places called otherwise."""
    return (web[0], tuple(sorted(tuple(sorted((names[one], names[other]))) for one, other in web[1])))


def nested(depth, wrap):
    value = 7
    for _ in range(depth):
        value = wrap(value)
    return value


def any_values():
    """Values of all kinds that may be handed in as any value; none is a web, a deed or a text."""
    return [
        None, True, False, 0, 1, -1, 12, FAR, -FAR,
        "", "form", "0", "a line\nand another\n", "~ !\"#$%&'()*+,-./", "x" * 20000, "\n" * 20000,
        (), (None,), (0,), (0, 1), (True, False), (0, 1, 2), ("0", "1"), (None, None, None, None),
        [], [4, []], [(0, 1), (1, 2)], [0, 1, 2, 3], [None] * 3999,
        {}, {"many": 4, "ties": ()}, {4: ()}, {0: 0, 1: 1}, {None: [], True: {}, (0, 1): "x"},
        nested(20, lambda value: (value,)), nested(20, lambda value: [value]),
        nested(20, lambda value: {"in": value}), nested(20, lambda value: (value, value) if value == 7 else (value,)),
        (4, [(0, 1)]), (4, {}), (4, None), ("4", ()), (None, ()), (0, ()), (4, (), ()), ((4, ()),),
        ((0, 1), (1, 2)), (FAR, ()), (-FAR, ()), (0,) * 4000, ("form", ("tie", 0)),
        Unfit(), BadText(), BadWeb(("tie", 1)), Apart(paper=("odd", 0)),
    ]
