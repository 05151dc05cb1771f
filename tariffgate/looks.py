"""Looks: which kinds are there and which of them weigh more, whatever they weigh."""


# For the weight 0 nothing is counted, so it has 0, as it must.
def rank_in(weights, weight):
    return len(set([other for other in weights if 0 < other <= weight]))


def look_of(weights):
    return tuple([rank_in(weights, weight) for weight in weights])


def key_of(weights):
    places = tuple([place for place, weight in enumerate(weights) if weight != 0])
    return (len(places), places, tuple([weights[place] for place in places]))


def rows_of(many):
    rows = [()]
    for place in range(many):
        longer = []
        for row in rows:
            longer.extend([row + (number,) for number in range(many + 1)])
        rows = longer
    return rows


# No number of a look is above the number of kinds, so each look is among these rows;
# and it is the looks alone that are their own look.
def all_looks(many):
    looks = [row for row in rows_of(many) if any(row) and look_of(row) == row]
    return sorted(looks, key=key_of)


def chief_of(look):
    return look.index(max(look))


def alone_of(look):
    chief = chief_of(look)
    return tuple([1 if place == chief else 0 for place in range(len(look))])
