"""Whether a reason that is handed in holds up for a note and a look."""

from tariffgate.notes import chief_places, is_over, made_places, used_places
from tariffgate.shares import is_whole

# For each note of two: the truth that takes the reasons of both, and what these have to say.
# The other truth takes the reason of one side alone, which says the opposite of what stands here.
OF_BOTH = {
    "both": (True, True, True),
    "either": (False, False, False),
    "but": (True, True, False),
}


def places_for(told, kinds, look):
    if told[0] == "made":
        return made_places(kinds, look, told[1])
    if told[0] == "used":
        return used_places(kinds, look, told[1])
    return chief_places(kinds, look, told[1])


def place_holds(told, kinds, look, reason):
    places = places_for(told, kinds, look)
    if reason[0]:
        return is_whole(reason[1]) and reason[1] in places
    return reason[1] is None and len(places) == 0


def one_holds(told, kinds, look, reason):
    if told[0] == "any":
        return reason[0] and reason[1] is None
    if told[0] == "over":
        return reason[0] == is_over(kinds, look, told[1], told[2]) and reason[1] is None
    return place_holds(told, kinds, look, reason)


def says(truth, told, kinds, look, reason):
    return holds_up(told, kinds, look, reason) and reason[0] == truth


def two_hold(told, kinds, look, reason):
    wanted = OF_BOTH[told[0]]
    if reason[0] == wanted[0]:
        first = says(wanted[1], told[1], kinds, look, reason[1])
        return first and says(wanted[2], told[2], kinds, look, reason[2])
    side = reason[1]
    if not is_whole(side) or not 0 <= side <= 1:
        return False
    return says(not wanted[1 + side], told[1 + side], kinds, look, reason[2])


# The note leads, not the reason: so a reason of whatever depth is followed as deep as the note goes.
def holds_up(told, kinds, look, reason):
    if not isinstance(reason, tuple) or len(reason) == 0 or not isinstance(reason[0], bool):
        return False
    if told[0] in OF_BOTH:
        return len(reason) == 3 and two_hold(told, kinds, look, reason)
    return len(reason) == 2 and one_holds(told, kinds, look, reason)


def truth_of(told, kinds, look, reason):
    if holds_up(told, kinds, look, reason):
        return reason[0]
    return None
