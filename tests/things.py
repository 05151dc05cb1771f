"""Things of any kind, to be handed in where something else is wanted."""

from decimal import Decimal
from fractions import Fraction


class Spiteful:
    """Whoever does more than ask for its class meets an error that is no refusal."""

    def fail(self, *others):
        raise RuntimeError("not to be asked")

    __eq__ = __ne__ = __lt__ = __le__ = __gt__ = __ge__ = fail
    __bool__ = __len__ = __iter__ = __getitem__ = __contains__ = __hash__ = fail
    __add__ = __radd__ = __mod__ = __rmod__ = __floordiv__ = __rfloordiv__ = fail
    __neg__ = __abs__ = __int__ = __index__ = __str__ = __repr__ = __format__ = fail


class Countable:
    """It can be used as an index, but it is no int."""

    def __index__(self):
        return 1


def no_wholes():
    """Things of any kind that are no whole numbers."""
    return [
        None, True, False, "", "1", "a", b"1", 1.0, 0.0, -2.5, float("nan"), float("inf"), 1j,
        Fraction(1), Decimal(1), [], [1], (), (1,), (1, 1), {}, {1: 1}, set(), frozenset([1]),
        range(3), iter([1]), object(), int, len, lambda: 1, Countable(), Spiteful(),
    ]


def named(thing):
    """A word for a thing in a subtest, without asking the thing itself."""
    return "a " + type(thing).__name__
