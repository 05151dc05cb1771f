"""Lots and their makers: what the lands have added to each lot, and from which land it comes."""

from tariffgate.errors import NoLot
from tariffgate.names import is_name, is_number
from tariffgate.rules import rule_for, rule_of
from tariffgate.shares import is_whole


def is_price(thing):
    return is_whole(thing) and 1 <= thing <= 10 ** 12


# Each has to be a place before they are compared: until then they may be of any kind.
def are_inputs(thing, many):
    if not isinstance(thing, tuple) or len(thing) > 4:
        return False
    if not all([is_whole(place) and 0 <= place < many for place in thing]):
        return False
    return all([thing.count(place) == 1 for place in thing])


def price_of_inputs(lots, inputs):
    return sum([lots[place][2] for place in inputs])


def is_lot(thing, ahead):
    if not isinstance(thing, tuple) or len(thing) != 4:
        return False
    if not is_name(thing[0]) or not is_number(thing[1]) or not is_price(thing[2]):
        return False
    return are_inputs(thing[3], len(ahead)) and price_of_inputs(ahead, thing[3]) <= thing[2]


# Lot by lot: the prices of those ahead are asked for only when these were found to be lots.
def lots_of(rows):
    if not isinstance(rows, list) or len(rows) > 24:
        raise NoLot("lots are a list of at most twenty-four")
    lots = []
    for row in rows:
        if not is_lot(row, lots):
            raise NoLot("a lot is a tuple (land, number, price, inputs), its inputs ahead of it and not dearer")
        lots.append(row)
    return lots


# Where nothing was added, the land is left out.
def table_of(lots, tables, lot):
    worths = {lot[0]: lot[2] - price_of_inputs(lots, lot[3])}
    for place in lot[3]:
        for land, worth in tables[place]:
            worths[land] = worths.get(land, 0) + worth
    return [(land, worths[land]) for land in sorted(worths) if worths[land] > 0]


def worths_of(lots):
    tables = []
    for lot in lots:
        tables.append(table_of(lots, tables, lot))
    return tables


# Of several such max tells the first.
def dearest_of(lots, inputs):
    return max(inputs, key=lambda place: lots[place][2])


def foreign_numbers(lots, origins, lot):
    return [lots[place][1] for place in lot[3] if origins[place][0] != lot[0]]


# To a lot without inputs its own land has added all and nothing is foreign: so every rule says enough,
# and there is a dearest one wherever one is asked for.
def origin_of(rules, lots, origins, lot, table):
    own = dict(table).get(lot[0], 0)
    rule = rule_of(rule_for(rules, lot[1]))
    if rule.enough(lot[1], lot[2], own, foreign_numbers(lots, origins, lot)):
        return (lot[0], True, None)
    source = dearest_of(lots, lot[3])
    return (origins[source][0], False, source)


def origins_of(rules, lots):
    origins = []
    for lot, table in zip(lots, worths_of(lots)):
        origins.append(origin_of(rules, lots, origins, lot, table))
    return origins


def chain_of(origins, place):
    chain = [place]
    while origins[chain[-1]][2] is not None:
        chain.append(origins[chain[-1]][2])
    return chain
