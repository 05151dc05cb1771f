"""Names, the numbers of the tree, and the prefixes that begin them."""

from tariffgate.shares import is_whole


# The letters are compared, not asked whether they are small: other alphabets have small letters too.
def is_name(thing):
    if not isinstance(thing, str) or not 1 <= len(thing) <= 8:
        return False
    return all(["a" <= letter <= "z" for letter in thing])


def is_prefix(thing):
    if not isinstance(thing, tuple) or len(thing) > 4:
        return False
    return all([is_whole(part) and 1 <= part <= 99 for part in thing])


def is_number(thing):
    return is_prefix(thing) and len(thing) >= 1


def begins(prefix, number):
    return number[:len(prefix)] == prefix


def nearest(prefixes, number):
    found = None
    for place, prefix in enumerate(prefixes):
        if begins(prefix, number) and (found is None or len(prefix) > len(prefixes[found])):
            found = place
    return found
