"""Whether grants, routes and cuts that are handed in are let by."""

from tariffgate.shares import is_whole


def is_list_of(thing, many):
    return isinstance(thing, list) and len(thing) == many


def is_grant(entry, grant):
    return is_whole(grant) and 0 <= grant <= entry[1]


# Each has to be a whole number before they are compared: until then they may be of any kind.
def are_places(some, allowed):
    if not all([is_whole(place) and place in allowed for place in some]):
        return False
    return len(set(some)) == len(some)


# The place is left out: places are looked at together.
def is_pair(thing):
    return isinstance(thing, tuple) and len(thing) == 2 and is_whole(thing[1]) and thing[1] >= 1


def is_route(entry, grant, route):
    if not isinstance(route, list) or not all([is_pair(pair) for pair in route]):
        return False
    if not are_places([pair[0] for pair in route], entry[0]):
        return False
    return sum([pair[1] for pair in route]) == grant


def amount_through(routes, place):
    total = 0
    for route in routes:
        total += sum([pair[1] for pair in route if pair[0] == place])
    return total


def keep_to_rooms(rooms, routes):
    return all([amount_through(routes, place) <= room for place, room in enumerate(rooms)])


def is_within(entry, cut):
    return all([place in cut for place in entry[0]])


# The line ends with the entry whose cut it is: what stands behind an entry changes nothing for it.
def is_cut(rooms, line, granted, cut):
    if not isinstance(cut, list) or not are_places(cut, list(range(len(rooms)))):
        return False
    if not is_within(line[-1], cut):
        return False
    inside = sum([grant for entry, grant in zip(line, granted) if is_within(entry, cut)])
    return inside == sum([rooms[place] for place in cut])


def cut_holds(rooms, line, granted, cut):
    return granted[-1] == line[-1][1] or is_cut(rooms, line, granted, cut)


def lets_by(rooms, line, granted, routes, cuts):
    if not all([is_list_of(thing, len(line)) for thing in (granted, routes, cuts)]):
        return False
    if not all([is_grant(entry, grant) for entry, grant in zip(line, granted)]):
        return False
    if not all([is_route(entry, grant, route) for entry, grant, route in zip(line, granted, routes)]):
        return False
    if not keep_to_rooms(rooms, routes):
        return False
    return all([cut_holds(rooms, line[:place + 1], granted[:place + 1], cut) for place, cut in enumerate(cuts)])
