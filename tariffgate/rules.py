"""Rules of enough working, and which of them stands for a number."""

from tariffgate.errors import NoRule
from tariffgate.names import is_prefix, nearest
from tariffgate.shares import is_share, is_whole


class Rule:
    def enough(self, number, price, own, foreign):
        raise NotImplementedError("each rule asks for something of its own")

    def told(self):
        raise NotImplementedError("each rule has its own tuple")


class Grown(Rule):
    def enough(self, number, price, own, foreign):
        return len(foreign) == 0

    def told(self):
        return ("grown",)


class Change(Rule):
    def __init__(self, deep):
        self.deep = deep

    # A slice takes all parts of a number that has fewer than deep, which is what is asked for.
    def enough(self, number, price, own, foreign):
        return all([other[:self.deep] != number[:self.deep] for other in foreign])

    def told(self):
        return ("change", self.deep)


class Worked(Rule):
    def __init__(self, share):
        self.share = share

    # Both sides are taken times the bottom, so that nothing is divided.
    def enough(self, number, price, own, foreign):
        return own * self.share[1] >= price * self.share[0]

    def told(self):
        return ("share", self.share)


class OfRules(Rule):
    def __init__(self, one, other):
        self.one = one
        self.other = other


class AllOf(OfRules):
    def enough(self, number, price, own, foreign):
        first = self.one.enough(number, price, own, foreign)
        return first and self.other.enough(number, price, own, foreign)

    def told(self):
        return ("all", self.one.told(), self.other.told())


class OneOf(OfRules):
    def enough(self, number, price, own, foreign):
        first = self.one.enough(number, price, own, foreign)
        return first or self.other.enough(number, price, own, foreign)

    def told(self):
        return ("some", self.one.told(), self.other.told())


def is_deep(thing):
    return is_whole(thing) and 1 <= thing <= 4


def is_share_of_one(thing):
    return is_share(thing) and 0 <= thing[0] <= thing[1] <= 10 ** 9


def rule_of_rules(word, one, other):
    if word == "all":
        return AllOf(one, other)
    return OneOf(one, other)


def rule_of_one(told):
    if len(told) == 1 and told[0] == "grown":
        return Grown()
    if len(told) == 2 and told[0] == "change" and is_deep(told[1]):
        return Change(told[1])
    if len(told) == 2 and told[0] == "share" and is_share_of_one(told[1]):
        return Worked(told[1])
    raise NoRule("there is no rule of this form")


# The depth that is left goes down with each call: so what is far too deep is refused
# as soon as it is, and not followed to its end.
def rule_within(left, told):
    if left == 0:
        raise NoRule("no rule is deeper than 4")
    if not isinstance(told, tuple) or len(told) == 0 or not isinstance(told[0], str):
        raise NoRule("a rule is a tuple that begins with a word")
    if len(told) == 3 and told[0] in ("all", "some"):
        one = rule_within(left - 1, told[1])
        other = rule_within(left - 1, told[2])
        return rule_of_rules(told[0], one, other)
    return rule_of_one(told)


def rule_of(told):
    return rule_within(4, told)


# The rule is left out: it is refused as it is read.
def is_row(thing):
    return isinstance(thing, tuple) and len(thing) == 2 and is_prefix(thing[0])


# Each has to be a row before prefixes are compared: until then they may be of any kind.
def are_rows(thing):
    if not isinstance(thing, list) or not 1 <= len(thing) <= 24:
        return False
    if not all([is_row(row) for row in thing]):
        return False
    prefixes = [row[0] for row in thing]
    return () in prefixes and all([prefixes.count(prefix) == 1 for prefix in prefixes])


def rules_of(rows):
    if not are_rows(rows):
        raise NoRule("rules are one to twenty-four tuples (prefix, rule), no prefix twice, () among them")
    for row in rows:
        rule_of(row[1])
    return list(rows)


def rule_for(rules, number):
    return rules[nearest([row[0] for row in rules], number)][1]
