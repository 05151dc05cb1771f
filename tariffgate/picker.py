"""Which number is picked for a look, from the root down to its heading."""

from tariffgate.errors import NoneClaims, TwoClaim
from tariffgate.goods import folded, parts_of
from tariffgate.looks import all_looks, alone_of, look_of


# Truths are a list with a tuple for each number straight beneath: whether its note claims the look,
# and whether it claims the chief alone. They may be worked out here, or shown by reasons from outside.
def ladder_by(tree, at, truths):
    numbers = tree.below(at)
    ladder = []
    for place, number in enumerate(numbers):
        if truths[place][0]:
            alone = 0 if truths[place][1] else 1
            ladder.append((tree.looked(number), alone, len(numbers) - 1 - place, number))
    return sorted(ladder)


def ladder_of(tree, at, look):
    chief = alone_of(look)
    return ladder_by(tree, at, [(tree.claims(number, look), tree.claims(number, chief)) for number in tree.below(at)])


# The rungs are made so that the one which goes ahead of all others has become the least.
def top_of(rule, ladder):
    if len(ladder) == 0 or (rule == "one" and len(ladder) > 1):
        return None
    return ladder[0][3]


def picked(tree, at, look):
    ladder = ladder_of(tree, at, look)
    number = top_of(tree.rule_at(at), ladder)
    if number is not None:
        return number
    parcel = parts_of(tree.kinds(), look)
    if len(ladder) == 0:
        raise NoneClaims(parcel, at)
    claiming = sorted([rung[3] for rung in ladder])
    raise TwoClaim(parcel, at, claiming[0], claiming[1])


def way_of(tree, look):
    way = []
    at = ()
    while len(tree.below(at)) > 0:
        at = picked(tree, at, look)
        way.append(at)
    return way


def end_of(tree, look):
    return way_of(tree, look)[-1]


def heading_of(tree, parts):
    return end_of(tree, look_of(folded(tree.kinds(), parts)))


def audit_of(tree):
    return [(look, end_of(tree, look)) for look in all_looks(len(tree.kinds()))]
