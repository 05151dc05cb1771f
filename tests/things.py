"""Things of any kind, to be handed in where something else is wanted; samples; and the document's words told again."""

import functools
import itertools
from decimal import Decimal
from fractions import Fraction


class Spiteful:
    """Whoever does more than ask for its class meets an error that is no refusal."""

    def fail(self, *others):
        raise RuntimeError("not to be asked")

    __eq__ = __ne__ = __lt__ = __le__ = __gt__ = __ge__ = fail
    __bool__ = __len__ = __iter__ = __getitem__ = __contains__ = __hash__ = fail
    __add__ = __radd__ = __mod__ = __rmod__ = __floordiv__ = __rfloordiv__ = fail
    __neg__ = __abs__ = __int__ = __index__ = __str__ = __repr__ = __format__ = fail


class Countable:
    """It can be used as an index, but it is no int."""

    def __index__(self):
        return 1


def no_wholes():
    """Things of any kind that are no whole numbers."""
    return [
        None, True, False, "", "1", "a", b"1", 1.0, 0.0, -2.5, float("nan"), float("inf"), 1j,
        Fraction(1), Decimal(1), [], [1], (), (1,), (1, 1), {}, {1: 1}, set(), frozenset([1]),
        range(3), iter([1]), object(), int, len, lambda: 1, Countable(), Spiteful(),
    ]


def named(thing):
    """A word for a thing in a subtest, without asking the thing itself."""
    return "a " + type(thing).__name__


def deep_tuple():
    """Too deep for whoever follows it to its end by calls."""
    deep = ()
    for _ in range(100000):
        deep = (deep,)
    return deep


def own_list():
    """A list that holds itself."""
    loop = []
    loop.append(loop)
    return loop


def things():
    """Things of any kind, whole numbers among them."""
    return no_wholes() + [
        0, 1, -1, 10 ** 60, "iron", ["iron"], ("iron",), {"iron": "tool"}, {("iron", "tool"): 1},
        frozenset([("iron", "tool")]), iter([("iron", "tool")]), deep_tuple(), own_list(), (own_list(),),
    ]


def no_names():
    """Things of any kind that are no names."""
    texts = ["", "abcdefghi", "a" * 1000, "Iron", "IRON", "iron1", "1", "ir on", "ir-on", " iron", "iron ", "~"]
    return [thing for thing in things() if not isinstance(thing, str)] + texts


WOOD = ("wood", "toy")
IRON = ("iron", "tool")
ORE = ("ironore", "toy")
BAR = ("iron", "to")
TIN = ("tin", "can")

# Names that are beginnings of one another, and names that are words of notes too,
# in orders that are not those of the letters.
ORDERS = [
    [WOOD, IRON, ORE, BAR], [BAR, ORE, IRON, WOOD], [ORE, WOOD, IRON], [IRON, WOOD], [BAR, IRON], [ORE],
    [("over", "any"), ("any", "made")],
]

ONES = (
    [("any",)]
    + [("made", stuff) for stuff in ("wood", "iron", "ironore", "iro", "tin", "tool", "toy", "any", "over")]
    + [("used", use) for use in ("toy", "tool", "to", "too", "t", "can", "iron", "any", "made")]
    + [("chief", stuff) for stuff in ("wood", "iron", "ironore", "iro", "tin", "tool", "any", "over")]
    + [("over", one, other) for one in (WOOD, IRON, ORE, BAR, TIN) for other in (WOOD, IRON, ORE, TIN)]
)
FEW = [
    ("any",), ("made", "iron"), ("used", "toy"), ("chief", "iron"), ("made", "tin"), ("over", WOOD, IRON),
    ("over", TIN, IRON),
]
TWOS = [(word, one, other) for word in ("both", "either", "but") for one in FEW for other in FEW]
DEEPER = [
    (word, one, other) for word in ("both", "either", "but") for one in TWOS[5::13] for other in TWOS[3::17] + FEW[:3]
]
DEEP = [
    ("but", ("both", ("made", "iron"), ("used", "tool")), ("chief", "wood")),
    ("either", ("but", ("any",), ("either", ("made", "wood"), ("both", ("any",), ("used", "to")))), ("chief", "iron")),
    ("both", ("either", ("but", ("either", ("made", "tin"), ("chief", "iron")), ("used", "toy")), ("any",)), ("any",)),
    ("but", ("any",), ("but", ("any",), ("but", ("any",), ("but", ("made", "iron"), ("over", IRON, WOOD))))),
]


def claims_by_words(told, kinds, look):
    """Whether a note claims a look, by the words of the document and with nothing of the program."""
    numbers = dict(zip(kinds, look))
    there = [kind for kind in kinds if numbers[kind] > 0]
    if told[0] == "any":
        return True
    if told[0] == "made":
        return told[1] in [stuff for stuff, use in there]
    if told[0] == "used":
        return told[1] in [use for stuff, use in there]
    if told[0] == "chief":
        return told[1] in [stuff for stuff, use in there if numbers[stuff, use] == max(look)]
    if told[0] == "over":
        return numbers.get(told[1], 0) > numbers.get(told[2], 0)
    first = claims_by_words(told[1], kinds, look)
    second = claims_by_words(told[2], kinds, look)
    return {"both": first and second, "either": first or second, "but": first and not second}[told[0]]


def places_by_words(told, kinds, look):
    """The places of which each shows by itself what a note of one name asks."""
    found = []
    for place, (stuff, use) in enumerate(kinds):
        good = look[place] == max(look) if told[0] == "chief" else look[place] > 0
        if good and told[1] == (use if told[0] == "used" else stuff):
            found.append(place)
    return found


def reasons_by_words(told, kinds, look):
    """All reasons that hold up for a note and a look."""
    truth = claims_by_words(told, kinds, look)
    if told[0] in ("any", "over"):
        return [(truth, None)]
    if told[0] in ("made", "used", "chief"):
        return [(True, place) for place in places_by_words(told, kinds, look)] or [(False, None)]
    first = reasons_by_words(told[1], kinds, look)
    second = reasons_by_words(told[2], kinds, look)
    if truth == (told[0] != "either"):
        return [(truth, one, other) for one in first for other in second]
    sides = [(truth, 0, reason) for reason in first if reason[0] == (told[0] == "either")]
    return sides + [(truth, 1, reason) for reason in second if reason[0] == (told[0] != "both")]


ANY = ("any",)
NO_WOOD = ("but", ANY, ("made", "wood"))

# Each is told as (kinds, the root's rule, rows). The first four are clear.
ONE_ROW = ([IRON], "one", [((84,), ANY, "near")])
FOUR_DEEP = ([WOOD, IRON, ORE, BAR], "near", [
    ((44, 9, 2, 7), ANY, "one"),
    ((84,), ("made", "iron"), "one"),
    ((44, 9), ("chief", "wood"), "one"),
    ((44,), ANY, "near"),
    ((84, 2), ("but", ANY, ("used", "tool")), "one"),
    ((44, 9, 2), ("but", ANY, ("made", "ironore")), "near"),
    ((84, 1), ("used", "tool"), "near"),
    ((44, 1), ANY, "one"),
    ((44, 9, 1), ("made", "ironore"), "one"),
    ((84, 1, 3), ("chief", "wood"), "one"),
    ((84, 1, 4), ("chief", "iron"), "one"),
    ((84, 1, 5), ANY, "one"),
])
TWENTY_FOUR = ([IRON, WOOD], "near", [((99 - place,), ANY, "one") for place in range(24)])
CHAINS = ([ORE, BAR], "near", (
    [((place,), ANY if place % 2 else ("chief", "iron"), "near") for place in (3, 1, 6, 2, 5, 4)]
    + [((place, 99), ANY, "one") for place in (4, 2, 6, 1, 3, 5)]
    + [((place, 99, 1), ANY, "near") for place in (1, 2, 3, 4, 5, 6)]
    + [((place, 99, 1, 2), ("either", ANY, ("made", "tin")), "one") for place in (6, 5, 4, 3, 2, 1)]
))
CLEAR = [ONE_ROW, FOUR_DEEP, TWENTY_FOUR, CHAINS]
# By the rule one, with what none and what two claim, at the root and beneath it.
UNCLEAR = [
    ([WOOD, IRON], "one", [((1,), ("made", "wood"), "one"), ((2,), ("made", "iron"), "one")]),
    ([WOOD, IRON], "one", [((1,), ("over", WOOD, IRON), "one"), ((2,), ("over", IRON, WOOD), "one")]),
    ([WOOD, IRON], "near", [((1,), ("made", "tin"), "one"), ((2,), ("over", IRON, WOOD), "one")]),
    ([IRON, WOOD, TIN], "near", [
        ((7,), NO_WOOD, "one"), ((7, 2), ANY, "one"), ((7, 1), ("used", "can"), "one"), ((7, 3), ANY, "one"),
        ((8,), ANY, "near"), ((8, 1), ("made", "tin"), "near"),
    ]),
]


class Draws:
    """Numbers that look drawn, and are the same in each run."""

    def __init__(self, seed):
        self.state = seed

    def upto(self, top):
        self.state = (self.state * 6364136223846793005 + 1442695040888963407) % 2 ** 64
        return (self.state >> 33) % (top + 1)

    def one_of(self, row):
        return row[self.upto(len(row) - 1)]


def drawn_tree(seed):
    """A tree with whatever notes and rules, its rows in no order."""
    draws = Draws(seed)
    numbers = []
    for _ in range(1 + draws.upto(23)):
        above = draws.one_of([()] + [number for number in numbers if len(number) < 4])
        number = above + (1 + draws.upto(98),)
        if number not in numbers:
            numbers.insert(draws.upto(len(numbers)), number)
    notes = [ANY] * 40 + DEEP * 5 + ONES + TWOS[::4] + DEEPER[::20]
    rows = [(number, draws.one_of(notes), draws.one_of(["one", "near", "near"])) for number in numbers]
    return (draws.one_of(ORDERS), draws.one_of(["one", "near", "near"]), rows)


DRAWN = [drawn_tree(seed) for seed in range(60)]


@functools.cache
def looks_by_words(many):
    """All looks of so many kinds, by rising keys."""
    def key(look):
        there = [place for place in range(many) if look[place]]
        return len(there), there, [look[place] for place in there]
    rows = itertools.product(range(many + 1), repeat=many)
    return sorted([row for row in rows if any(row) and set(range(1, max(row))) <= set(row)], key=key)


@functools.cache
def looked_by_words(told, kinds):
    return sum(claims_by_words(told, kinds, look) for look in looks_by_words(len(kinds)))


def alone_by_words(look):
    return tuple(int(place == look.index(max(look))) for place in range(len(look)))


def straight_beneath(rows, at):
    return sorted((number, told) for number, told, rule in rows if number[:-1] == at)


def picked_by_words(sample, at, look):
    """The number that is picked, or the words of the refusal: none, or two with the first two."""
    kinds, root, rows = sample
    rule = dict([((), root)] + [(number, rule) for number, told, rule in rows])[at]
    left = [(number, told) for number, told in straight_beneath(rows, at) if claims_by_words(told, kinds, look)]
    if not left:
        return "none"
    if rule == "one":
        return left[0][0] if len(left) == 1 else ("two", left[0][0], left[1][0])
    fewest = min(looked_by_words(told, tuple(kinds)) for number, told in left)
    left = [(number, told) for number, told in left if looked_by_words(told, tuple(kinds)) == fewest]
    ahead = [number for number, told in left if claims_by_words(told, kinds, alone_by_words(look))]
    return ahead[-1] if ahead else left[-1][0]


def way_by_words(sample, look):
    """The way of a look, and None; or the way so far, and the words of the refusal."""
    way = []
    while straight_beneath(sample[2], way[-1] if way else ()):
        found = picked_by_words(sample, way[-1] if way else (), look)
        if found == "none" or found[0] == "two":
            return way, found
        way.append(found)
    return way, None


def enough_by_words(told, number, price, own, foreign):
    """Whether a rule says enough, by the words of the document and with nothing of the program."""
    if told[0] == "grown":
        return foreign == []
    if told[0] == "change":
        for other in foreign:
            parts = list(itertools.zip_longest(number, other))[:told[1]]
            if all(mine == theirs for mine, theirs in parts):
                return False
        return True
    if told[0] == "share":
        return own >= Fraction(*told[1]) * price
    truths = [enough_by_words(rule, number, price, own, foreign) for rule in told[1:]]
    return all(truths) if told[0] == "all" else any(truths)


def sets_of(many):
    """All lists of places of so many quotas, rising."""
    return [list(some) for size in range(many + 1) for some in itertools.combinations(range(many), size)]


def drawn_line(seed, many, longest, top):
    """Rooms and a line, as a tuple; the weights are great in one line and small in another."""
    draws = Draws(seed)
    several = draws.one_of([many, draws.upto(many)])
    rooms = [draws.one_of([0, top, draws.upto(top), draws.upto(top)]) for _ in range(several)]
    some = sets_of(len(rooms))
    upmost = draws.one_of([top, top, top // 3 + 1, top // 9 + 1])
    weights = [0, upmost, upmost, draws.upto(upmost), draws.upto(upmost), draws.upto(upmost)]
    length = draws.one_of([longest, longest, draws.upto(longest)])
    return rooms, [(list(draws.one_of(some)), draws.one_of(weights)) for _ in range(length)]


# Those ahead have to be led over quota by quota, from the first to the last one, ahead of the last entry's grant.
CHAIN = ([7] * 6, [([place, place + 1], 7) for place in range(5)] + [([0], 9)])
CHAIN_BACK = ([7] * 6, [([place - 1, place], 7) for place in (5, 4, 3, 2, 1)] + [([5], 9)])
# Each is told as (rooms, line).
LINES = [
    ([], []), ([], [([], 5), ([], 0)]), ([5], []), ([5, 0, 10 ** 15], []), ([5], [([], 3)]), ([5], [([0], 5)]),
    ([5], [([0], 6), ([0], 1), ([], 0), ([0], 0)]), ([0, 0], [([0, 1], 1), ([0], 0)]), CHAIN, CHAIN_BACK,
    ([4, 3], [([0, 1], 5), ([0], 4), ([1], 2), ([0, 1], 1)]),
    ([10 ** 15] * 6, [([0, 1, 2, 3, 4, 5], 10 ** 15)] * 40),
    ([10 ** 15, 1, 10 ** 15 - 1], [([0, 1], 10 ** 15), ([1, 2], 10 ** 15), ([0, 2], 10 ** 15), ([2], 1), ([0, 1], 0)]),
    ([30, 20], [([0, 1], place) for place in range(40)]),
    ([6, 6, 6], [([0, 1], 4), ([1, 2], 4), ([0, 2], 4), ([0], 3), ([1], 3), ([2], 3)]),
    ([5, 5], [([0], 9), ([1], 3), ([0, 1], 9), ([1], 1)]),
] + [drawn_line(seed, 6, 40, (3, 20, 10 ** 15)[seed % 3]) for seed in range(60)]


def granted_by_sets(rooms, line):
    """What is granted, by sets of quotas: an entry has the least that a set which holds all of its own has left."""
    granted = []
    for places, weight in line:
        left = [weight]
        for some in sets_of(len(rooms)):
            if set(places) <= set(some):
                inside = [grant for entry, grant in zip(line, granted) if set(entry[0]) <= set(some)]
                left.append(sum(rooms[place] for place in some) - sum(inside))
        granted.append(min(left))
    return granted


def splits_of(left, places, weight):
    """All ways of leading at most a weight through the places, as dicts from a place to an amount from 1 on."""
    ways = [{}]
    for place in places:
        ways = [
            {**way, place: amount} if amount else way
            for way in ways for amount in range(min(left[place], weight - sum(way.values())) + 1)
        ]
    return ways
