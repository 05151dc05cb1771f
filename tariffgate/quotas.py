"""Quotas, and on which of them goods of a number and a land may draw."""

from tariffgate.errors import NoQuota
from tariffgate.names import begins, is_name, is_prefix
from tariffgate.shares import is_whole


# The text without signs stands for any land.
def is_land(thing):
    return is_name(thing) or (isinstance(thing, str) and thing == "")


def is_room(thing):
    return is_whole(thing) and 0 <= thing <= 10 ** 15


def is_quota(thing):
    if not isinstance(thing, tuple) or len(thing) != 3:
        return False
    return is_prefix(thing[0]) and is_land(thing[1]) and is_room(thing[2])


def quotas_of(rows):
    if not isinstance(rows, list) or len(rows) > 6:
        raise NoQuota("quotas are a list of at most six")
    if not all([is_quota(row) for row in rows]):
        raise NoQuota("a quota is a tuple (prefix, land, room)")
    return list(rows)


def is_for(quota, number, land):
    return begins(quota[0], number) and quota[1] in ("", land)


def may_draw(quotas, number, land):
    return [place for place, quota in enumerate(quotas) if is_for(quota, number, land)]
