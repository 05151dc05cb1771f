"""Kinds of goods, and the parts of a parcel, folded into a weight for each kind."""

from tariffgate.errors import NoGoods, NoKinds
from tariffgate.names import is_name
from tariffgate.shares import is_whole


def is_kind(thing):
    if not isinstance(thing, tuple) or len(thing) != 2:
        return False
    return is_name(thing[0]) and is_name(thing[1])


# Each has to be a kind before they are compared: until then they may be of any kind.
def are_kinds(thing):
    if not isinstance(thing, list) or not 1 <= len(thing) <= 4:
        return False
    if not all([is_kind(kind) for kind in thing]):
        return False
    return all([thing.count(kind) == 1 for kind in thing])


def kinds_of(some):
    if not are_kinds(some):
        raise NoKinds("kinds are a list of one to four tuples (stuff, use), none twice")
    return list(some)


def is_part(thing):
    if not isinstance(thing, tuple) or len(thing) != 3:
        return False
    return is_kind(thing[:2]) and is_whole(thing[2]) and thing[2] >= 1


def are_parts(thing):
    if not isinstance(thing, list) or not 1 <= len(thing) <= 40:
        return False
    if not all([is_part(part) for part in thing]):
        return False
    return sum([part[2] for part in thing]) <= 10 ** 15


def weight_in(parts, kind):
    return sum([part[2] for part in parts if part[:2] == kind])


def folded(kinds, parts):
    if not are_parts(parts):
        raise NoGoods("parts are a list of one to forty tuples (stuff, use, weight), up to 10 ** 15 together")
    if not all([part[:2] in kinds for part in parts]):
        raise NoGoods("a part is of none of the kinds")
    return [weight_in(parts, kind) for kind in kinds]


def parts_of(kinds, weights):
    return [kind + (weight,) for kind, weight in zip(kinds, weights) if weight != 0]


def weight_of(weights):
    return sum(weights)
