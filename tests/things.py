"""Things of any kind, to be handed in where something else is wanted."""

from decimal import Decimal
from fractions import Fraction


class Spiteful:
    """Whoever does more than ask for its class meets an error that is no refusal."""

    def fail(self, *others):
        raise RuntimeError("not to be asked")

    __eq__ = __ne__ = __lt__ = __le__ = __gt__ = __ge__ = fail
    __bool__ = __len__ = __iter__ = __getitem__ = __contains__ = __hash__ = fail
    __add__ = __radd__ = __mod__ = __rmod__ = __floordiv__ = __rfloordiv__ = fail
    __neg__ = __abs__ = __int__ = __index__ = __str__ = __repr__ = __format__ = fail


class Countable:
    """It can be used as an index, but it is no int."""

    def __index__(self):
        return 1


def no_wholes():
    """Things of any kind that are no whole numbers."""
    return [
        None, True, False, "", "1", "a", b"1", 1.0, 0.0, -2.5, float("nan"), float("inf"), 1j,
        Fraction(1), Decimal(1), [], [1], (), (1,), (1, 1), {}, {1: 1}, set(), frozenset([1]),
        range(3), iter([1]), object(), int, len, lambda: 1, Countable(), Spiteful(),
    ]


def named(thing):
    """A word for a thing in a subtest, without asking the thing itself."""
    return "a " + type(thing).__name__


def deep_tuple():
    """Too deep for whoever follows it to its end by calls."""
    deep = ()
    for _ in range(100000):
        deep = (deep,)
    return deep


def own_list():
    """A list that holds itself."""
    loop = []
    loop.append(loop)
    return loop


def things():
    """Things of any kind, whole numbers among them."""
    return no_wholes() + [
        0, 1, -1, 10 ** 60, "iron", ["iron"], ("iron",), {"iron": "tool"}, {("iron", "tool"): 1},
        frozenset([("iron", "tool")]), iter([("iron", "tool")]), deep_tuple(), own_list(), (own_list(),),
    ]


def no_names():
    """Things of any kind that are no names."""
    texts = ["", "abcdefghi", "a" * 1000, "Iron", "IRON", "iron1", "1", "ir on", "ir-on", " iron", "iron ", "~"]
    return [thing for thing in things() if not isinstance(thing, str)] + texts


WOOD = ("wood", "toy")
IRON = ("iron", "tool")
ORE = ("ironore", "toy")
BAR = ("iron", "to")
TIN = ("tin", "can")

# Names that are beginnings of one another, and names that are words of notes too,
# in orders that are not those of the letters.
ORDERS = [
    [WOOD, IRON, ORE, BAR], [BAR, ORE, IRON, WOOD], [ORE, WOOD, IRON], [IRON, WOOD], [BAR, IRON], [ORE],
    [("over", "any"), ("any", "made")],
]

ONES = (
    [("any",)]
    + [("made", stuff) for stuff in ("wood", "iron", "ironore", "iro", "tin", "tool", "toy", "any", "over")]
    + [("used", use) for use in ("toy", "tool", "to", "too", "t", "can", "iron", "any", "made")]
    + [("chief", stuff) for stuff in ("wood", "iron", "ironore", "iro", "tin", "tool", "any", "over")]
    + [("over", one, other) for one in (WOOD, IRON, ORE, BAR, TIN) for other in (WOOD, IRON, ORE, TIN)]
)
FEW = [
    ("any",), ("made", "iron"), ("used", "toy"), ("chief", "iron"), ("made", "tin"), ("over", WOOD, IRON),
    ("over", TIN, IRON),
]
TWOS = [(word, one, other) for word in ("both", "either", "but") for one in FEW for other in FEW]
DEEPER = [
    (word, one, other) for word in ("both", "either", "but") for one in TWOS[5::13] for other in TWOS[3::17] + FEW[:3]
]
DEEP = [
    ("but", ("both", ("made", "iron"), ("used", "tool")), ("chief", "wood")),
    ("either", ("but", ("any",), ("either", ("made", "wood"), ("both", ("any",), ("used", "to")))), ("chief", "iron")),
    ("both", ("either", ("but", ("either", ("made", "tin"), ("chief", "iron")), ("used", "toy")), ("any",)), ("any",)),
    ("but", ("any",), ("but", ("any",), ("but", ("any",), ("but", ("made", "iron"), ("over", IRON, WOOD))))),
]


def claims_by_words(told, kinds, look):
    """Whether a note claims a look, by the words of the document and with nothing of the program."""
    numbers = dict(zip(kinds, look))
    there = [kind for kind in kinds if numbers[kind] > 0]
    if told[0] == "any":
        return True
    if told[0] == "made":
        return told[1] in [stuff for stuff, use in there]
    if told[0] == "used":
        return told[1] in [use for stuff, use in there]
    if told[0] == "chief":
        return told[1] in [stuff for stuff, use in there if numbers[stuff, use] == max(look)]
    if told[0] == "over":
        return numbers.get(told[1], 0) > numbers.get(told[2], 0)
    first = claims_by_words(told[1], kinds, look)
    second = claims_by_words(told[2], kinds, look)
    return {"both": first and second, "either": first or second, "but": first and not second}[told[0]]


def places_by_words(told, kinds, look):
    """The places of which each shows by itself what a note of one name asks."""
    found = []
    for place, (stuff, use) in enumerate(kinds):
        good = look[place] == max(look) if told[0] == "chief" else look[place] > 0
        if good and told[1] == (use if told[0] == "used" else stuff):
            found.append(place)
    return found


def reasons_by_words(told, kinds, look):
    """All reasons that hold up for a note and a look."""
    truth = claims_by_words(told, kinds, look)
    if told[0] in ("any", "over"):
        return [(truth, None)]
    if told[0] in ("made", "used", "chief"):
        return [(True, place) for place in places_by_words(told, kinds, look)] or [(False, None)]
    first = reasons_by_words(told[1], kinds, look)
    second = reasons_by_words(told[2], kinds, look)
    if truth == (told[0] != "either"):
        return [(truth, one, other) for one in first for other in second]
    sides = [(truth, 0, reason) for reason in first if reason[0] == (told[0] == "either")]
    return sides + [(truth, 1, reason) for reason in second if reason[0] == (told[0] != "both")]
