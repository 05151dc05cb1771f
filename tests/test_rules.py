import unittest

from tariffgate.errors import NoRule
from tariffgate.rules import AllOf, Change, Grown, OneOf, Rule, Worked, rule_for, rule_of, rules_of
from things import Spiteful, deep_tuple, enough_by_words, named, own_list, things

GROWN = ("grown",)
HALF = ("share", (1, 2))
NEVER = ("share", (1, 1))
TOP = 10 ** 9

ONES = (
    [GROWN] + [("change", deep) for deep in (1, 2, 3, 4)]
    + [("share", share) for share in ((0, 1), (1, 1), (1, 2), (2, 3), (1, TOP), (TOP - 1, TOP))]
)
TWOS = [(word, one, other) for word in ("all", "some") for one in ONES[::2] for other in ONES[::3]]
DEEP = [
    ("all", ("some", GROWN, ("change", 2)), ("share", (2, 5))),
    ("some", GROWN, ("all", ("change", 1), ("some", HALF, ("change", 3)))),
    ("all", ("all", ("all", ("change", 4), ("change", 1)), HALF), ("some", GROWN, ("share", (1, 3)))),
]
NUMBERS = [(84,), (84, 71), (84, 71, 1), (84, 71, 1, 9), (84, 71, 2), (84, 7), (85,), (8,), (85, 71), (71, 84)]
# What is asked: a number, a price, an own worth and foreign numbers.
ASKED = [
    (number, price, own, foreign)
    for number in NUMBERS[:6:2]
    for price, own in ((1, 0), (1, 1), (10, 5), (10, 4), (3, 2), (10 ** 12, 10 ** 12 - 1), (10 ** 12, 10 ** 3))
    for foreign in ([], [(84,)], [(84, 71, 1)], [(85,), (71, 84)], [(85,), (84, 71, 1, 9), (1,)], [(84, 71, 2)])
]
NO_SHARES = [
    (2, 4), (0, 2), (2, 2), (-1, 2), (-1, 1), (3, 2), (2, 1), (1, 0), (0, 0), (1, -2), (-1, -2), (0, -1), (1, TOP + 1),
    (TOP, TOP + 1), (TOP + 1, TOP + 2), (10 ** 60, 10 ** 60 + 1), (10 ** 60, 1), [1, 2], (1,), (1, 2, 3), ("1", "2"),
    (1.0, 2), (1, 2.0), (True, 2), (1, True), (True, True), (False, True), (0, True), (None, 1), (1, None), "1/2", 1, 0,
    ((1, 2),), (Spiteful(), 2), (1, Spiteful()),
]
NO_DEEPS = [0, 5, -1, 99, 10 ** 60, True, False, None, "1", 1.0, 2.5, (1,), [1], {}, Spiteful()]


def by_hand(told):
    """The rule of a tuple, made by its classes."""
    if told[0] == "grown":
        return Grown()
    if told[0] == "change":
        return Change(told[1])
    if told[0] == "share":
        return Worked(told[1])
    one, other = by_hand(told[1]), by_hand(told[2])
    return AllOf(one, other) if told[0] == "all" else OneOf(one, other)


def deepened(told, word, side, many):
    """A rule so many times within another one, at the told side."""
    for _ in range(many):
        told = (word, GROWN, told) if side else (word, told, GROWN)
    return told


class Enough(unittest.TestCase):
    def says(self, told, truth, number=(84, 71), price=10, own=5, foreign=()):
        for rule in (by_hand(told), rule_of(told)):
            with self.subTest(told, number=number, price=price, own=own, foreign=foreign):
                self.assertIs(rule.enough(number, price, own, list(foreign)), truth)

    def test_grown(self):
        self.says(GROWN, True)
        self.says(GROWN, True, own=0)
        self.says(GROWN, False, foreign=[(1,)])
        self.says(GROWN, False, foreign=[(84, 71)])
        self.says(GROWN, False, own=10, foreign=[(1,), (2,), (3,), (4,)])

    def test_change(self):
        number = (84, 71, 1, 9)
        for other, same in (
            ((84, 71, 1, 9), 4), ((84, 71, 1, 8), 3), ((84, 71, 2, 9), 2), ((84, 70, 1, 9), 1), ((83, 71, 1, 9), 0),
        ):
            for deep in (1, 2, 3, 4):
                self.says(("change", deep), deep > same, number, foreign=[other])

    def test_change_with_fewer_parts(self):
        for number, other, enough in (
            ((84,), (84, 71), [False, True, True, True]),
            ((84,), (84,), [False, False, False, False]),
            ((84,), (85,), [True, True, True, True]),
            ((84, 71), (84,), [False, True, True, True]),
            ((84, 71), (84, 71), [False, False, False, False]),
            ((84, 71), (84, 71, 1), [False, False, True, True]),
            ((84, 71, 1), (84, 71), [False, False, True, True]),
            ((84, 71, 1), (84, 71, 1), [False, False, False, False]),
            ((84, 71, 1), (84, 71, 1, 1), [False, False, False, True]),
            ((84, 71, 1, 1), (84, 71, 1), [False, False, False, True]),
            ((84, 71, 1, 1), (84,), [False, True, True, True]),
            ((8,), (84,), [True, True, True, True]),
            ((84, 7), (84, 71), [False, True, True, True]),
        ):
            for deep in (1, 2, 3, 4):
                self.says(("change", deep), enough[deep - 1], number, foreign=[other])

    def test_change_with_no_foreign_number_and_with_several(self):
        for deep in (1, 2, 3, 4):
            self.says(("change", deep), True)
            self.says(("change", deep), True, foreign=[(83,), (85,), (71, 84)])
            self.says(("change", deep), False, foreign=[(84, 71), (85,), (71, 84)])
            self.says(("change", deep), False, foreign=[(83,), (84, 71), (71, 84)])
            self.says(("change", deep), False, foreign=[(83,), (85,), (84, 71)])

    def test_share_just_met_and_just_missed(self):
        for share, price, own in (
            ((1, 2), 10, 5), ((1, 2), 11, 6), ((1, 3), 10, 4), ((2, 3), 3, 2), ((2, 3), 1, 1),
            ((2, 3), 10 ** 12, 666666666667), ((1, TOP), 10 ** 12, 1000), ((1, TOP), 1, 1),
            ((TOP - 1, TOP), TOP, TOP - 1), ((TOP - 1, TOP), 10 ** 12, 10 ** 12 - 1000), ((1, 1), 7, 7),
            ((1, 1), 10 ** 12, 10 ** 12),
        ):
            self.says(("share", share), True, price=price, own=own)
            self.says(("share", share), True, price=price, own=price)
            self.says(("share", share), False, price=price, own=own - 1)

    def test_share_of_nought_and_of_one(self):
        for own in (0, 1, 10):
            self.says(("share", (0, 1)), True, own=own)
            self.says(("share", (1, 1)), own == 10, own=own)

    def test_share_does_not_look_at_foreign_numbers(self):
        self.says(HALF, True, own=5, foreign=[(84, 71), (1,)])
        self.says(HALF, False, own=4)

    def test_all_and_some(self):
        for one in (GROWN, NEVER):
            for other in (GROWN, NEVER):
                self.says(("all", one, other), one == other == GROWN)
                self.says(("some", one, other), GROWN in (one, other))
        self.says(("all", ("change", 2), HALF), True, foreign=[(84, 72)])
        self.says(("all", ("change", 2), HALF), False, foreign=[(84, 71)])
        self.says(("some", GROWN, ("change", 1)), True, foreign=[(85,)])
        self.says(("some", GROWN, ("change", 1)), False, foreign=[(84,)])

    def test_by_the_words_of_the_document(self):
        for told in ONES + TWOS + DEEP:
            for rule in (by_hand(told), rule_of(told)):
                for asked in ASKED:
                    self.assertIs(rule.enough(*asked), enough_by_words(told, *asked), (told, asked))

    def test_what_was_handed_in_stays(self):
        foreign = [(85,), (84, 71), (1,)]
        for told in ONES + DEEP:
            rule_of(told).enough((84, 71), 10, 5, foreign)
        self.assertEqual(foreign, [(85,), (84, 71), (1,)])

    def test_a_rule_keeps_nothing_of_what_it_was_asked(self):
        rule = rule_of(("some", GROWN, HALF))
        for foreign, own, truth in (([], 0, True), ([(1,)], 0, False), ([(1,)], 5, True), ([], 0, True)):
            self.assertIs(rule.enough((84,), 10, own, foreign), truth)


class Told(unittest.TestCase):
    def test_each(self):
        for told in ONES + TWOS + DEEP:
            for rule in (by_hand(told), rule_of(told), rule_of(rule_of(told).told())):
                self.assertEqual(rule.told(), told)
                self.assertIsInstance(rule.told(), tuple)
                self.assertIsInstance(rule, Rule)

    def test_the_classes(self):
        self.assertEqual(Grown().told(), ("grown",))
        self.assertEqual(Change(3).told(), ("change", 3))
        self.assertEqual(Worked((1, 2)).told(), ("share", (1, 2)))
        self.assertEqual(AllOf(Grown(), Change(1)).told(), ("all", ("grown",), ("change", 1)))
        self.assertEqual(OneOf(Grown(), Change(1)).told(), ("some", ("grown",), ("change", 1)))
        self.assertEqual(AllOf(one=Grown(), other=Change(deep=2)).told(), ("all", ("grown",), ("change", 2)))
        self.assertEqual(OneOf(other=Grown(), one=Worked(share=(0, 1))).told(), ("some", ("share", (0, 1)), ("grown",)))

    def test_the_class_of_each(self):
        for told, wanted in (
            (GROWN, Grown), (("change", 1), Change), (HALF, Worked), (("all", GROWN, HALF), AllOf),
            (("some", GROWN, HALF), OneOf),
        ):
            self.assertIs(rule_of(told).__class__, wanted)

    def test_depth_four_is_taken(self):
        for word in ("all", "some"):
            for side in (0, 1):
                for one in (GROWN, ("change", 4), HALF):
                    for many in (0, 1, 2, 3):
                        told = deepened(one, word, side, many)
                        self.assertEqual(rule_of(told).told(), told)
        full = GROWN
        for word in ("all", "some", "all"):
            full = (word, full, full)
        self.assertEqual(rule_of(full).told(), full)


class Refused(unittest.TestCase):
    def refused(self, told):
        with self.subTest(named(told)), self.assertRaises(NoRule):
            rule_of(told)

    def refused_within(self, told):
        """By itself, and in each place of rules that are deep enough to hold it."""
        self.refused(told)
        for word in ("all", "some"):
            for side in (0, 1):
                for many in (1, 2, 3):
                    self.refused(deepened(told, word, side, many))

    def test_depth_five_and_more(self):
        for word in ("all", "some"):
            for side in (0, 1):
                for one in (GROWN, ("change", 1), HALF):
                    for many in (4, 5, 50, 5000):
                        self.refused(deepened(one, word, side, many))
        self.refused(("all", deepened(GROWN, "some", 1, 3), deepened(GROWN, "some", 0, 4)))
        self.refused(("some", deepened(GROWN, "all", 0, 4), GROWN))

    def test_lists_and_other_words(self):
        for told in (
            (), [], ["grown"], ["change", 1], ["share", (1, 2)], ["all", GROWN, GROWN], "grown", ("Grown",), ("grow",),
            ("grown ",), ("",), ("any",), ("one",), ("worked", (1, 2)), ("both", GROWN, GROWN), ("or", GROWN, GROWN),
            ("All", GROWN, GROWN), ("oneof", GROWN, GROWN), ("sum", GROWN, GROWN), ("change1",), ("weight", 1, 1),
        ):
            self.refused_within(told)

    def test_a_word_that_is_no_text(self):
        for thing in things():
            if not isinstance(thing, str):
                self.refused_within((thing,))
                self.refused_within((thing, 1))
                self.refused_within((thing, (1, 2)))
                self.refused_within((thing, GROWN, GROWN))
        self.refused_within((GROWN,))
        self.refused_within((b"grown",))
        self.refused_within((["grown"],))

    def test_too_many_and_too_few_parts(self):
        for told in (
            ("grown", None), ("grown", 1), ("grown", GROWN), ("grown", GROWN, GROWN), ("change",), ("change", 1, 2),
            ("change", 1, None), ("change", GROWN, GROWN), ("share",), ("share", 1, 2), ("share", (1, 2), None),
            ("share", (1, 2), (1, 2)), ("share", GROWN, GROWN), ("all",), ("all", GROWN), ("all", GROWN, GROWN, GROWN),
            ("some",), ("some", GROWN), ("some", GROWN, GROWN, None), ("all", (GROWN, GROWN)), ("some", 1, 2),
        ):
            self.refused_within(told)

    def test_a_deep_that_is_none(self):
        for deep in NO_DEEPS:
            self.refused_within(("change", deep))

    def test_a_share_that_is_none(self):
        for share in NO_SHARES:
            self.refused_within(("share", share))

    def test_things_of_any_kind(self):
        for thing in things() + [(Spiteful(), Spiteful()), (own_list(),), (deep_tuple(), deep_tuple())]:
            self.refused_within(thing)
            self.refused_within(("change", (thing,)))
            self.refused_within(("share", [thing]))
            if not isinstance(thing, (int, tuple)):
                self.refused_within(("change", thing))
                self.refused_within(("share", thing))
            self.refused_within(("all", thing, GROWN))
            self.refused_within(("all", GROWN, thing))
            self.refused_within(("some", thing, thing))
            self.refused_within((thing, thing, thing))

    def test_a_good_one_is_taken_behind_a_bad_one(self):
        self.refused(("change", 5))
        self.assertEqual(rule_of(("change", 4)).told(), ("change", 4))


class Rules(unittest.TestCase):
    def test_one(self):
        self.assertEqual(rules_of([((), GROWN)]), [((), GROWN)])

    def test_twenty_four_in_their_order(self):
        rows = [((99 - place,), ONES[place % len(ONES)]) for place in range(20)]
        rows += [((1, 2), DEEP[0]), ((), DEEP[1]), ((1, 2, 3, 4), DEEP[2]), ((1, 2, 3), TWOS[3])]
        self.assertEqual(len(rows), 24)
        self.assertEqual(rules_of(rows), rows)
        self.assertEqual(rules_of(rows[::-1]), rows[::-1])
        self.assertIsInstance(rules_of(rows), list)

    def test_the_same_rule_for_several(self):
        rows = [((84,), GROWN), ((), GROWN), ((84, 1), GROWN)]
        self.assertEqual(rules_of(rows), rows)

    def test_the_list_told_is_a_new_one(self):
        handed = [((84,), HALF), ((), GROWN)]
        told = rules_of(handed)
        self.assertIsNot(told, handed)
        told.clear()
        self.assertEqual(handed, [((84,), HALF), ((), GROWN)])
        again = rules_of(handed)
        handed.pop()
        self.assertEqual(again, [((84,), HALF), ((), GROWN)])

    def test_what_was_refused_stays_and_may_be_mended(self):
        handed = [((84,), HALF), ((), ("change", 5))]
        with self.assertRaises(NoRule):
            rules_of(handed)
        self.assertEqual(handed, [((84,), HALF), ((), ("change", 5))])
        handed[1] = ((), ("change", 4))
        self.assertEqual(rules_of(handed), [((84,), HALF), ((), ("change", 4))])


class RulesRefused(unittest.TestCase):
    def refused(self, rows):
        with self.subTest(named(rows)), self.assertRaises(NoRule):
            rules_of(rows)

    def refused_within(self, row):
        """In each place of rules; () is among them."""
        root = ((), GROWN)
        for rows in ([row], [row, root], [root, row], [((84,), HALF), root, row], [root, row, ((84,), HALF)]):
            self.refused(rows)

    def test_none_and_twenty_five(self):
        self.refused([])
        self.refused([((), GROWN)] + [((place,), GROWN) for place in range(1, 25)])
        self.refused([((), GROWN)] + [((place,), GROWN) for place in range(1, 100)])

    def test_a_prefix_twice(self):
        self.refused([((), GROWN), ((), GROWN)])
        self.refused([((), GROWN), ((), HALF)])
        self.refused([((84,), GROWN), ((), GROWN), ((84,), HALF)])
        self.refused([((), GROWN), ((84, 71, 1, 9), GROWN), ((84,), GROWN), ((84, 71, 1, 9), GROWN)])

    def test_the_empty_prefix_missing(self):
        self.refused([((84,), GROWN)])
        self.refused([((84,), GROWN), ((85,), HALF), ((84, 1), GROWN)])

    def test_a_row_that_is_none(self):
        for row in (
            [(84,), GROWN], (), ((84,),), ((84,), GROWN, None), ((84,), GROWN, GROWN), (GROWN, (84,)),
            (((84,), GROWN),), ((84,), "grown"), ((84,), [GROWN]), None, "84 grown", {(84,): GROWN}, 1,
        ):
            self.refused_within(row)

    def test_a_prefix_that_is_none(self):
        for prefix in [thing for thing in things() if not isinstance(thing, tuple)] + [
            (0,), (100,), (-1,), (1, 2, 3, 4, 5), (1.0,), (True,), ("1",), (None,), [1], [], (84, 0), (84, (1,)), ((),),
            ("iron",), deep_tuple(), (Spiteful(),), (84, Spiteful()), "all", {},
        ]:
            self.refused_within((prefix, GROWN))

    def test_a_rule_that_is_none(self):
        for rule in things() + [
            ["grown"], "grown", (), ("change", 0), ("change", 5), ("change", True), ("share", (2, 4)), ("all", GROWN),
            deepened(GROWN, "all", 1, 4), ("share", (1, TOP + 1)), Grown(), ("all", GROWN, Grown()),
        ]:
            self.refused_within(((1,), rule))
            self.refused([((), rule)])
            self.refused([((), rule), ((1,), GROWN)])

    def test_things_of_any_kind(self):
        row = ((), GROWN)
        for thing in things() + [(row,), row, {(): GROWN}, {row: 1}, frozenset([row]), iter([row]), "all grown"]:
            self.refused(thing)
        for thing in things():
            self.refused_within(thing)


class RuleFor(unittest.TestCase):
    def test_the_nearest_prefix(self):
        rules = rules_of([
            ((84, 71), ("change", 2)), ((84,), ("change", 1)), ((), GROWN), ((84, 71, 1, 9), ("change", 4)),
            ((8,), HALF),
        ])
        for number, rule in (
            ((84,), ("change", 1)), ((84, 70), ("change", 1)), ((84, 7), ("change", 1)), ((84, 71), ("change", 2)),
            ((84, 71, 1), ("change", 2)), ((84, 71, 1, 8), ("change", 2)), ((84, 71, 1, 9), ("change", 4)),
            ((8,), HALF), ((8, 4), HALF), ((85,), GROWN), ((71, 84), GROWN), ((1, 84, 71), GROWN),
        ):
            with self.subTest(number):
                self.assertEqual(rule_for(rules, number), rule)
                self.assertEqual(rule_for(rules[::-1], number), rule)

    def test_the_empty_prefix_alone(self):
        for number in NUMBERS:
            self.assertEqual(rule_for([((), HALF)], number), HALF)

    def test_what_was_handed_in_stays(self):
        rules = [((84,), HALF), ((), GROWN)]
        rule_for(rules, (84, 71))
        self.assertEqual(rules, [((84,), HALF), ((), GROWN)])


if __name__ == "__main__":
    unittest.main()
