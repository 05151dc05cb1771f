"""The tree of headings: its numbers, their notes, and by which rule one of them is picked."""

from tariffgate.errors import NoTree
from tariffgate.goods import kinds_of
from tariffgate.looks import all_looks
from tariffgate.names import is_number
from tariffgate.notes import note_of


def is_picking(thing):
    return isinstance(thing, str) and thing in ("one", "near")


# The note is left out: all rows are looked at ahead of the first note.
def is_row(thing):
    if not isinstance(thing, tuple) or len(thing) != 3:
        return False
    return is_number(thing[0]) and is_picking(thing[2])


def has_place(numbers, number):
    above = number[:-1]
    return numbers.count(number) == 1 and (above == () or above in numbers)


# Each has to be a row before numbers are compared: until then they may be of any kind.
def are_rows(thing):
    if not isinstance(thing, list) or not 1 <= len(thing) <= 24:
        return False
    if not all([is_row(row) for row in thing]):
        return False
    numbers = [row[0] for row in thing]
    return all([has_place(numbers, number) for number in numbers])


def claimed_of(note, kinds, looks):
    return len([look for look in looks if note.claims(kinds, look)])


class Tree:
    def __init__(self, kinds, rule, rows):
        self.goods = kinds_of(kinds)
        if not is_picking(rule):
            raise NoTree("the rule of the root is one or near")
        if not are_rows(rows):
            raise NoTree("rows are one to twenty-four tuples (number, note, rule), each number once and beneath a row")
        self.numbers = sorted([row[0] for row in rows])
        self.pickings = {(): rule}
        self.notes = {}
        for row in rows:
            self.pickings[row[0]] = row[2]
            self.notes[row[0]] = note_of(row[1])
        # What a note claims never changes, and each ladder asks for it: so it is counted once.
        looks = all_looks(len(self.goods))
        self.counts = {}
        for number in self.numbers:
            self.counts[number] = claimed_of(self.notes[number], self.goods, looks)

    def kinds(self):
        return list(self.goods)

    def below(self, at):
        return [number for number in self.numbers if number[:-1] == at]

    def note_at(self, number):
        return self.notes[number].told()

    def rule_at(self, at):
        return self.pickings[at]

    def claims(self, number, look):
        return self.notes[number].claims(self.goods, look)

    def reason_at(self, number, look):
        return self.notes[number].reason(self.goods, look)

    def looked(self, number):
        return self.counts[number]
