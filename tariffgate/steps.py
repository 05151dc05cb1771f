"""The steps of a look with their grounds, and whether steps that are handed in lead to a heading."""

from tariffgate.looks import alone_of
from tariffgate.names import is_prefix
from tariffgate.picker import ladder_by, top_of, way_of
from tariffgate.reasons import truth_of


def needs_alone(tree, at, truth):
    return truth and tree.rule_at(at) == "near"


def row_of(tree, at, look, number):
    reason = tree.reason_at(number, look)
    alone = None
    if needs_alone(tree, at, reason[0]):
        alone = tree.reason_at(number, alone_of(look))
    return (number, reason, alone)


def steps_of(tree, look):
    steps = []
    at = ()
    for number in way_of(tree, look):
        rows = [row_of(tree, at, look, other) for other in tree.below(at)]
        steps.append((at, rows, number))
        at = number
    return steps


# A thing has to be a prefix before it is compared: until then it may be of any kind,
# and (1.0,) is the same as (1,) to Python. No thing is the same as None, which is told where none is picked.
def is_same(thing, number):
    return is_prefix(thing) and thing == number


# What a row shows: the truths for the look and for the chief alone, or None where it does not hold up.
# Where the second is not needed it weighs nothing, and False stands in its place.
def shown_by(tree, at, look, number, row):
    if not isinstance(row, tuple) or len(row) != 3 or not is_same(row[0], number):
        return None
    told = tree.note_at(number)
    truth = truth_of(told, tree.kinds(), look, row[1])
    if truth is None:
        return None
    if not needs_alone(tree, at, truth):
        return (truth, False)
    alone = truth_of(told, tree.kinds(), alone_of(look), row[2])
    if alone is None:
        return None
    return (truth, alone)


def led_by(tree, look, at, step):
    if not isinstance(step, tuple) or len(step) != 3 or not is_same(step[0], at):
        return None
    numbers = tree.below(at)
    if not isinstance(step[1], list) or len(step[1]) != len(numbers):
        return None
    truths = [shown_by(tree, at, look, number, row) for number, row in zip(numbers, step[1])]
    if None in truths:
        return None
    found = top_of(tree.rule_at(at), ladder_by(tree, at, truths))
    if not is_same(step[2], found):
        return None
    return found


def heading_by(tree, look, steps):
    if not isinstance(steps, list):
        return None
    at = ()
    for step in steps:
        at = led_by(tree, look, at, step)
        if at is None:
            return None
    if len(tree.below(at)) > 0:
        return None
    return at
