"""Webs and values that several tests need. Nothing here calls the functions under test."""

from itertools import combinations, permutations
from math import comb

from liftedties.benches import Bench
from liftedties.errors import Apart, BadLog, BadText, BadWeb, NoName, Unfit

PATH = (4, ((0, 1), (1, 2), (2, 3)))
WING = (5, ((0, 1), (0, 2), (1, 2), (2, 3), (2, 4)))
NET = (5, ((0, 1), (0, 2), (3, 4)))
LOW, HIGH = (4, ((0, 1), (0, 2), (1, 2))), (4, ((0, 1), (0, 3), (1, 3)))
LEFT, RIGHT = (6, ((0, 1), (0, 2), (1, 2))), (6, ((3, 4), (3, 5), (4, 5)))
FAR = 10 ** 399


def pairs(many):
    return tuple(combinations(range(many), 2))


def all_webs(many):
    """Every web of so many places."""
    of = pairs(many)
    return [
        (many, tuple(pair for at, pair in enumerate(of) if bits >> at & 1))
        for bits in range(2 ** len(of))
    ]


def empty_web(many):
    return (many, ())


def full_web(many):
    return (many, pairs(many))


def striped_web(many, step):
    """A web with an irregular lot of ties, another one for each step."""
    return (many, tuple(pair for pair in pairs(many) if (pair[0] * 7 + pair[1] * 5 + pair[0] * pair[1]) % step < 2))


def tied_in(web, place, mate):
    return (place, mate) in web[1] or (mate, place) in web[1]


def told_apart(web, place, one, other):
    """What [B1] says: another place than both, tied to just one of them."""
    return place not in (one, other) and tied_in(web, place, one) + tied_in(web, place, other) == 1


def deeds_of(web):
    """All quadruples that are deeds of the web by [B1], ascending."""
    return [
        (a, d, b, c) for a, d, b, c in permutations(range(web[0]), 4)
        if told_apart(web, b, a, d) and told_apart(web, c, a, d)
    ]


def lifts_of(web):
    """Those of them in which both places that change sides were tied to the same one."""
    return [(a, d, b, c) for a, d, b, c in deeds_of(web) if tied_in(web, a, b) == tied_in(web, a, c)]


def behind(web, deed):
    """The web behind a deed: of its two places b and c each changes from a to d, or from d to a."""
    a, d, b, c = deed
    turned = {tuple(sorted(pair)) for pair in ((a, b), (a, c), (d, b), (d, c))}
    return (web[0], tuple(sorted(set(web[1]) ^ turned)))


def is_deed(web, deed):
    """Whether this is a quadruple of unlike places of which the last two tell the first two apart."""
    if type(deed) is not tuple or [type(item) for item in deed] != [int] * 4 or len(set(deed)) < 4:
        return False
    a, d, b, c = deed
    return all(0 <= item < web[0] for item in deed) and told_apart(web, b, a, d) and told_apart(web, c, a, d)


def is_lift_of(web, deed):
    """Whether it is a deed by which both places that change sides leave the same one."""
    return is_deed(web, deed) and tied_in(web, deed[0], deed[2]) == tied_in(web, deed[0], deed[3])


def has_lift(web):
    """Whether some place has two neighbours that another place, none of them, does not have."""
    near = [{other for other in range(web[0]) if tied_in(web, place, other)} for place in range(web[0])]
    return any(len(near[a] - near[d] - {d}) > 1 for a, d in permutations(range(web[0]), 2))


def led_by(web, row, lets=is_deed):
    """The web behind a tuple of deeds, each of them let in the web ahead of it; None if it is no such tuple."""
    if type(row) is not tuple:
        return None
    for deed in row:
        if not lets(web, deed):
            return None
        web = behind(web, deed)
    return web


def apart(one, other):
    """How many red and blue ties there are."""
    return len(set(one[1]) ^ set(other[1]))


def waves_from(start, steps):
    """How many steps it is to each web to which the steps lead, the web itself with 0."""
    far, newest, wave = {start: 0}, {start}, 0
    while newest:
        wave += 1
        newest = {there for web in newest for there in steps[web]} - far.keys()
        far.update(dict.fromkeys(newest, wave))
    return far


def wandered(web, turns):
    """The web behind so many deeds, an irregular lot of them; the web must have a deed."""
    quadruples = list(permutations(range(web[0]), 4))
    for turn in range(turns):
        at = turn * 7919 % len(quadruples)
        web = behind(web, next(deed for deed in quadruples[at:] + quadruples[:at] if is_deed(web, deed)))
    return web


def odd_in(web):
    """The odd places of the web, ascending."""
    return tuple(place for place in range(web[0]) if sum(place in tie for tie in web[1]) % 2)


def by_kinds(webs):
    """Lists of the webs with as many places and ties and the same odd places, by these."""
    kinds = {}
    for web in webs:
        kinds.setdefault((web[0], len(web[1]), odd_in(web)), []).append(web)
    return kinds


def all_odd(many):
    """All ascending tuples of so many places."""
    return [odd for number in range(many + 1) for odd in combinations(range(many), number)]


def all_kinds(many):
    """All kinds of so many places, with the list of their webs; many is small."""
    webs = by_kinds(all_webs(many))
    return {
        (many, count, odd): webs.get((many, count, odd), [])
        for count in range(len(pairs(many)) + 1) for odd in all_odd(many)
    }


def kinds_by_numbers(many):
    """A kind of so many places for each count and each number of odd places, some here and some there."""
    told = []
    for count in range(len(pairs(many)) + 1):
        for number in range(many + 1):
            places = [(place * 5 + count) % many if many % 5 else (place * 3 + count) % many for place in range(number)]
            told.append((many, count, tuple(sorted(places))))
    return told


def row_in(web):
    """The row of the web."""
    return tuple(int(pair in web[1]) for pair in pairs(web[0]))


def plain_size(many, count, odd):
    """How many webs have so many places, ties and odd places, by signs in the place of parities.

    Over all lots of places, the product of the signs that a web gives them, -1 for each tie with
    one end in the lot, is as often 1 as the parities ask, and cancels out otherwise.
    """
    total = 0
    for lot in range(many + 1):
        crossing = lot * (many - lot)
        inner = len(pairs(many)) - crossing
        signs = sum((-1) ** some * comb(odd, some) * comb(many - odd, lot - some) for some in range(lot + 1))
        webs = sum((-1) ** some * comb(crossing, some) * comb(inner, count - some) for some in range(count + 1))
        total += signs * webs
    assert total % 2 ** many == 0
    return total // 2 ** many


def joined_pairs(webs):
    """All pairs of these webs that are joined."""
    return [(one, other) for lot in by_kinds(webs).values() for one in lot for other in lot]


def ring(places):
    """The ties of a ring of these places, in this order."""
    return tuple(sorted(tuple(sorted((places[at - 1], places[at]))) for at in range(len(places))))


def web_with(many, *lots):
    """The web of so many places with the ties of all these lots."""
    return (many, tuple(sorted({tie for lot in lots for tie in lot})))


def opposed(web):
    """The opposite of the web."""
    return (web[0], tuple(pair for pair in pairs(web[0]) if pair not in web[1]))


def renamed(web, names):
    """The web with its places called otherwise."""
    return (web[0], tuple(sorted(tuple(sorted((names[one], names[other]))) for one, other in web[1])))


def nested(depth, wrap):
    value = 7
    for _ in range(depth):
        value = wrap(value)
    return value


def any_values():
    """Values of all kinds that may be handed in as any value; none is a web, a deed, a board or a web's text."""
    return [
        None, True, False, 0, 1, -1, 12, FAR, -FAR,
        "", "form", "0", "a line\nand another\n", "~ !\"#$%&'()*+,-./", "x" * 20000, "\n" * 20000,
        (), (None,), (0,), (0, 1), (True, False), (0, 1, 2), ("0", "1"), (None, None, None, None),
        [], [4, []], [(0, 1), (1, 2)], [0, 1, 2, 3], [None] * 3999,
        {}, {"many": 4, "ties": ()}, {4: ()}, {0: 0, 1: 1}, {None: [], True: {}, (0, 1): "x"},
        nested(20, lambda value: (value,)), nested(20, lambda value: [value]),
        nested(20, lambda value: {"in": value}), nested(20, lambda value: (value, value) if value == 7 else (value,)),
        (4, [(0, 1)]), (4, {}), (4, None), ("4", ()), (None, ()), (0, ()), (4, (), ()), ((4, ()),),
        ((0, 1), (1, 2)), (FAR, ()), (-FAR, ()), (0,) * 4000, ("form", ("tie", 0)),
        Unfit(), BadText(), BadWeb(("tie", 1)), Apart(paper=("odd", 0)), NoName([0]), BadLog(place=3),
        Bench(), [Bench()], ((0, 1), (1,)), ((0, True), (1, 0)), [(0, 1), (1, 0)], ([0, 1], [1, 0]), ((),) * 3,
        ((0,) * 13,), ((0,),) * 13, ("keep", "p"), ("batch", ()), (("drop", "p"),), "(drop,p)", "p q", "Path", "p\n",
    ]
