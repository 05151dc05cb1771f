"""Notes: which looks they claim, and the reasons that they tell for it."""

from tariffgate.errors import NoNote
from tariffgate.goods import is_kind
from tariffgate.names import is_name


def made_places(kinds, look, stuff):
    return [place for place, kind in enumerate(kinds) if look[place] != 0 and kind[0] == stuff]


def used_places(kinds, look, use):
    return [place for place, kind in enumerate(kinds) if look[place] != 0 and kind[1] == use]


def chief_places(kinds, look, stuff):
    greatest = max(look)
    return [place for place, kind in enumerate(kinds) if look[place] == greatest and kind[0] == stuff]


def number_in(kinds, look, kind):
    if kind not in kinds:
        return 0
    return look[kinds.index(kind)]


def is_over(kinds, look, one, other):
    return number_in(kinds, look, one) > number_in(kinds, look, other)


def place_reason(places):
    if len(places) == 0:
        return (False, None)
    return (True, places[0])


class Note:
    # What a note claims is read off its reason, so that the two cannot part.
    def claims(self, kinds, look):
        return self.reason(kinds, look)[0]

    def told(self):
        raise NotImplementedError("each note has its own tuple")

    def reason(self, kinds, look):
        raise NotImplementedError("each note has its own reason")


class Anything(Note):
    def told(self):
        return ("any",)

    def reason(self, kinds, look):
        return (True, None)


class Made(Note):
    def __init__(self, stuff):
        self.stuff = stuff

    def told(self):
        return ("made", self.stuff)

    def reason(self, kinds, look):
        return place_reason(made_places(kinds, look, self.stuff))


class Used(Note):
    def __init__(self, use):
        self.use = use

    def told(self):
        return ("used", self.use)

    def reason(self, kinds, look):
        return place_reason(used_places(kinds, look, self.use))


class Chief(Note):
    def __init__(self, stuff):
        self.stuff = stuff

    def told(self):
        return ("chief", self.stuff)

    def reason(self, kinds, look):
        return place_reason(chief_places(kinds, look, self.stuff))


class Over(Note):
    def __init__(self, one, other):
        self.one = one
        self.other = other

    def told(self):
        return ("over", self.one, self.other)

    def reason(self, kinds, look):
        return (is_over(kinds, look, self.one, self.other), None)


class OfTwo(Note):
    def __init__(self, one, other):
        self.one = one
        self.other = other


class Both(OfTwo):
    def told(self):
        return ("both", self.one.told(), self.other.told())

    def reason(self, kinds, look):
        first = self.one.reason(kinds, look)
        second = self.other.reason(kinds, look)
        if not first[0]:
            return (False, 0, first)
        if not second[0]:
            return (False, 1, second)
        return (True, first, second)


class Either(OfTwo):
    def told(self):
        return ("either", self.one.told(), self.other.told())

    def reason(self, kinds, look):
        first = self.one.reason(kinds, look)
        second = self.other.reason(kinds, look)
        if first[0]:
            return (True, 0, first)
        if second[0]:
            return (True, 1, second)
        return (False, first, second)


class But(OfTwo):
    def told(self):
        return ("but", self.one.told(), self.other.told())

    def reason(self, kinds, look):
        first = self.one.reason(kinds, look)
        second = self.other.reason(kinds, look)
        if not first[0]:
            return (False, 0, first)
        if second[0]:
            return (False, 1, second)
        return (True, first, second)


def note_of_name(word, name):
    if word == "made":
        return Made(name)
    if word == "used":
        return Used(name)
    if word == "chief":
        return Chief(name)
    raise NoNote("no note of one name begins with this word")


def note_of_notes(word, one, other):
    if word == "both":
        return Both(one, other)
    if word == "either":
        return Either(one, other)
    return But(one, other)


def note_of_one(told):
    if len(told) == 1 and told[0] == "any":
        return Anything()
    if len(told) == 2 and is_name(told[1]):
        return note_of_name(told[0], told[1])
    if len(told) == 3 and told[0] == "over" and is_kind(told[1]) and is_kind(told[2]):
        return Over(told[1], told[2])
    raise NoNote("there is no note of this form")


# The depth that is left goes down with each call: so what is far too deep is refused
# as soon as it is, and not followed to its end.
def note_within(left, told):
    if left == 0:
        raise NoNote("no note is deeper than 5")
    if not isinstance(told, tuple) or len(told) == 0 or not isinstance(told[0], str):
        raise NoNote("a note is a tuple that begins with a word")
    if len(told) == 3 and told[0] in ("both", "either", "but"):
        one = note_within(left - 1, told[1])
        other = note_within(left - 1, told[2])
        return note_of_notes(told[0], one, other)
    return note_of_one(told)


def note_of(told):
    return note_within(5, told)
