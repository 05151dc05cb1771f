"""Started steps, and bands: what an amount costs, slice by slice."""

from tariffgate.errors import NoBands, NoNumber
from tariffgate.shares import is_whole


def started(amount, step):
    if not is_whole(amount) or amount < 0:
        raise NoNumber("an amount is a whole number from 0 on")
    if not is_whole(step) or step < 1:
        raise NoNumber("a step is a whole number from 1 on")
    return (amount + step - 1) // step


def is_band(thing):
    if not isinstance(thing, tuple) or len(thing) != 2:
        return False
    if not is_whole(thing[0]) or not is_whole(thing[1]):
        return False
    return 0 <= thing[0] <= 10 ** 15 and 0 <= thing[1] <= 10 ** 9


# Each band has to be one before marks are compared: until then they may be of any kind.
def is_bands(thing):
    if not isinstance(thing, tuple) or not 1 <= len(thing) <= 6:
        return False
    if not all([is_band(band) for band in thing]):
        return False
    if thing[0][0] != 0:
        return False
    return all([thing[place][0] < thing[place + 1][0] for place in range(len(thing) - 1)])


def bands_of(rows):
    if not is_bands(rows):
        raise NoBands("bands are one to six tuples (mark, coins), marks rising from 0")
    return rows


def slices_of(bands, amount):
    slices = []
    for place, band in enumerate(bands):
        end = amount
        if place + 1 < len(bands):
            end = min(amount, bands[place + 1][0])
        slices.append(max(0, end - band[0]))
    return slices


# The first mark is 0, so every amount lies at least in the first band.
def band_at(bands, amount):
    found = 0
    for place, band in enumerate(bands):
        if band[0] <= amount:
            found = place
    return found


def banded(bands, amount):
    return sum([part * band[1] for part, band in zip(slices_of(bands, amount), bands)])
