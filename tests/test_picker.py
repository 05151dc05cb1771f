import itertools
import unittest

from tariffgate.errors import NoGoods, NoneClaims, TwoClaim
from tariffgate.picker import audit_of, heading_of, ladder_of, picked, way_of
from tariffgate.tree import Tree
from things import (
    ANY, CHAINS, CLEAR, DRAWN, FOUR_DEEP, IRON, NO_WOOD, ONE_ROW, ORE, TIN, TWENTY_FOUR, UNCLEAR, WOOD,
    alone_by_words, claims_by_words, looked_by_words, looks_by_words, named, no_names, no_wholes, picked_by_words,
    straight_beneath, things, way_by_words,
)

SAMPLES = CLEAR + UNCLEAR + DRAWN
TOP = 10 ** 15


def beneath_root(kinds, rule, *notes):
    """A tree whose rows stand beneath the root, from (1,) on."""
    return Tree(kinds, rule, [((place + 1,), note, "one") for place, note in enumerate(notes)])


def parcel_of(kinds, weights):
    return [(stuff, use, weight) for (stuff, use), weight in zip(kinds, weights) if weight]


def met(deed, *things_handed):
    """What a deed tells; or its refusal as a tuple of the word and the fields."""
    try:
        return deed(*things_handed)
    except NoneClaims as refusal:
        return ("none", refusal.parcel, refusal.at)
    except TwoClaim as refusal:
        return ("two", refusal.parcel, refusal.at, refusal.one, refusal.other)


def wanted_refusal(sample, look, at, words):
    parcel = parcel_of(sample[0], look)
    if words == "none":
        return ("none", parcel, at)
    return ("two", parcel, at) + words[1:]


def wanted_way(sample, look):
    way, words = way_by_words(sample, look)
    return way if words is None else wanted_refusal(sample, look, way[-1] if way else (), words)


def wanted_audit(sample):
    told = []
    for look in looks_by_words(len(sample[0])):
        way = wanted_way(sample, look)
        if isinstance(way, tuple):
            return way
        told.append((look, way[-1]))
    return told


def places_with_some_beneath(sample):
    return [at for at in [()] + [row[0] for row in sample[2]] if straight_beneath(sample[2], at)]


class ByTheRuleOne(unittest.TestCase):
    def test_one_claims(self):
        tree = beneath_root([WOOD, IRON], "one", ("made", "tin"), ("made", "wood"), ("made", "iron"))
        self.assertEqual(picked(tree, (), (1, 0)), (2,))
        self.assertEqual(picked(tree, (), (0, 1)), (3,))

    def test_none_claims(self):
        tree = beneath_root([WOOD, IRON], "one", ("over", WOOD, IRON), ("over", IRON, WOOD))
        self.assertEqual(met(picked, tree, (), (1, 1)), ("none", [("wood", "toy", 1), ("iron", "tool", 1)], ()))

    def test_two_and_more_claim(self):
        kinds = [WOOD, IRON]
        for notes, look, one, other in (
            ((ANY, ANY), (1, 0), (1,), (2,)),
            ((ANY, ANY, ANY, ANY), (1, 0), (1,), (2,)),
            ((("made", "tin"), ANY, ("made", "iron"), ("made", "wood")), (2, 1), (2,), (3,)),
            ((("made", "tin"), ANY, ("made", "iron"), ("made", "wood")), (1, 0), (2,), (4,)),
            ((("over", IRON, WOOD), ("made", "tin"), ANY), (1, 2), (1,), (3,)),
            ((ANY, ("over", IRON, WOOD), ("made", "iron")), (1, 1), (1,), (3,)),
        ):
            tree = beneath_root(kinds, "one", *notes)
            with self.subTest(notes):
                self.assertEqual(met(picked, tree, (), look), ("two", parcel_of(kinds, look), (), one, other))

    def test_the_first_two_are_told_whatever_the_order_of_rows(self):
        rows = [((place,), ANY, "one") for place in (30, 9, 99, 10, 8)]
        self.assertEqual(met(picked, Tree([IRON], "one", rows), (), (1,))[3:], ((8,), (9,)))

    def test_it_does_not_look_how_nearly_they_are_told(self):
        tree = beneath_root([WOOD, IRON], "one", ANY, ("over", IRON, WOOD))
        with self.assertRaises(TwoClaim):
            picked(tree, (), (1, 2))

    def test_a_number_beneath(self):
        tree = Tree([WOOD, IRON], "one", [
            ((5,), ANY, "one"), ((5, 2), ("made", "wood"), "near"), ((5, 4), ("made", "iron"), "near"),
        ])
        self.assertEqual(picked(tree, (5,), (1, 0)), (5, 2))
        refusal = ("two", [("wood", "toy", 2), ("iron", "tool", 1)], (5,), (5, 2), (5, 4))
        self.assertEqual(met(picked, tree, (5,), (2, 1)), refusal)


class ByTheRuleNear(unittest.TestCase):
    def test_different_counts(self):
        notes = (("over", IRON, WOOD), ("chief", "iron"), ("made", "iron"), ANY)
        for order in itertools.permutations(notes):
            tree = beneath_root([WOOD, IRON], "near", *order)
            for look, note in (((1, 2), notes[0]), ((1, 1), notes[1]), ((2, 1), notes[2]), ((1, 0), notes[3])):
                self.assertEqual(picked(tree, (), look), (order.index(note) + 1,))

    def test_the_same_count_and_one_claims_the_chief_alone(self):
        wood, iron = ("made", "wood"), ("made", "iron")
        for order in ((wood, iron), (iron, wood)):
            tree = beneath_root([WOOD, IRON], "near", *order)
            for look, note in (((1, 2), iron), ((2, 1), wood), ((1, 1), wood), ((1, 0), wood), ((0, 1), iron)):
                self.assertEqual(picked(tree, (), look), (order.index(note) + 1,), (order, look))
            # Of several that are the greatest the first is the chief.
            tree = beneath_root([IRON, WOOD], "near", *order)
            self.assertEqual(picked(tree, (), (1, 1)), (order.index(iron) + 1,))

    def test_the_same_count_goes_ahead_of_the_chief_alone(self):
        tree = beneath_root([WOOD, IRON], "near", ("both", ("made", "wood"), ("made", "iron")), ("made", "iron"))
        self.assertEqual(picked(tree, (), (1, 2)), (1,))

    def test_where_all_is_the_same_the_last(self):
        for many in (2, 3, 24):
            tree = beneath_root([WOOD, IRON], "near", *[("made", "iron")] * many)
            self.assertEqual(picked(tree, (), (1, 2)), (many,))
            self.assertEqual(picked(tree, (), (2, 1)), (many,))
        tree = beneath_root([WOOD, IRON], "near", ("made", "iron"), ("both", ANY, ("made", "iron")), ("made", "wood"))
        self.assertEqual(picked(tree, (), (1, 2)), (2,))
        self.assertEqual(picked(tree, (), (2, 1)), (3,))

    def test_the_last_by_the_order_of_numbers(self):
        rows = [((place,), ANY, "one") for place in (30, 9, 99, 10, 8)]
        self.assertEqual(picked(Tree([IRON], "near", rows), (), (1,)), (99,))

    def test_none_claims(self):
        tree = beneath_root([WOOD, IRON], "near", ("made", "tin"), ("over", IRON, WOOD))
        self.assertEqual(met(picked, tree, (), (2, 1)), ("none", [("wood", "toy", 2), ("iron", "tool", 1)], ()))

    def test_how_it_is_said_counts_for_nothing(self):
        longer = ("but", ANY, ("but", ANY, ("made", "iron")))
        tree = beneath_root([WOOD, IRON, ORE], "near", longer, ("made", "iron"))
        self.assertEqual(picked(tree, (), (1, 2, 0)), (2,))
        tree = beneath_root([WOOD, IRON, ORE], "near", ("made", "iron"), longer)
        self.assertEqual(picked(tree, (), (1, 2, 0)), (2,))


class Picked(unittest.TestCase):
    def test_by_the_words_of_the_document(self):
        for sample in SAMPLES:
            tree = Tree(*sample)
            for at in places_with_some_beneath(sample):
                for look in looks_by_words(len(sample[0])):
                    wanted = picked_by_words(sample, at, look)
                    if wanted == "none" or wanted[0] == "two":
                        wanted = wanted_refusal(sample, look, at, wanted)
                    self.assertEqual(met(picked, tree, at, look), wanted, (sample, at, look))

    def test_the_parcel_told_is_the_askers_own(self):
        for rule, notes in (("one", (ANY, ANY)), ("near", (("made", "tin"),))):
            tree = beneath_root([WOOD, IRON], rule, *notes)
            first = met(picked, tree, (), (2, 1))
            first[1].clear()
            self.assertEqual(met(picked, tree, (), (2, 1))[1], [("wood", "toy", 2), ("iron", "tool", 1)])
            self.assertEqual(tree.kinds(), [WOOD, IRON])


class Ladders(unittest.TestCase):
    def test_by_hand(self):
        notes = (("over", IRON, WOOD), ("made", "tin"), ANY, ("made", "wood"), ("made", "iron"))
        for rule in ("one", "near"):
            tree = beneath_root([WOOD, IRON], rule, *notes)
            for look, ladder in (
                ((1, 2), [(2, 0, 4, (1,)), (4, 0, 0, (5,)), (4, 1, 1, (4,)), (5, 0, 2, (3,))]),
                ((2, 1), [(4, 0, 1, (4,)), (4, 1, 0, (5,)), (5, 0, 2, (3,))]),
                ((1, 0), [(4, 0, 1, (4,)), (5, 0, 2, (3,))]),
                ((0, 1), [(2, 0, 4, (1,)), (4, 0, 0, (5,)), (5, 0, 2, (3,))]),
            ):
                with self.subTest(look, rule=rule):
                    self.assertEqual(ladder_of(tree, (), look), ladder)

    def test_of_several_that_are_the_same(self):
        tree = beneath_root([WOOD, IRON], "near", ANY, ANY, ANY)
        self.assertEqual(ladder_of(tree, (), (1, 1)), [(5, 0, 0, (3,)), (5, 0, 1, (2,)), (5, 0, 2, (1,))])

    def test_of_a_number(self):
        tree = Tree(*FOUR_DEEP)
        self.assertEqual(ladder_of(tree, (44,), (1, 0, 0, 0)), [(51, 0, 0, (44, 9)), (149, 0, 1, (44, 1))])
        self.assertEqual(ladder_of(tree, (44,), (0, 1, 0, 0)), [(149, 0, 1, (44, 1))])
        self.assertEqual(ladder_of(tree, (84,), (1, 2, 0, 0)), [(124, 0, 1, (84, 1))])
        self.assertEqual(ladder_of(tree, (44, 9, 2), (1, 1, 1, 1)), [(149, 0, 0, (44, 9, 2, 7))])

    def test_where_none_claims(self):
        for rule in ("one", "near"):
            tree = beneath_root([WOOD, IRON], rule, ("made", "tin"), ("over", IRON, WOOD))
            self.assertEqual(ladder_of(tree, (), (1, 0)), [])

    def test_of_a_heading(self):
        self.assertEqual(ladder_of(Tree(*ONE_ROW), (84,), (1,)), [])

    def test_by_the_words_of_the_document(self):
        for sample in SAMPLES:
            tree = Tree(*sample)
            for at in [()] + [row[0] for row in sample[2]]:
                below = straight_beneath(sample[2], at)
                for look in looks_by_words(len(sample[0])):
                    wanted = []
                    for place, (number, told) in enumerate(below):
                        if claims_by_words(told, sample[0], look):
                            alone = 0 if claims_by_words(told, sample[0], alone_by_words(look)) else 1
                            looked = looked_by_words(told, tuple(sample[0]))
                            wanted.append((looked, alone, len(below[place + 1:]), number))
                    self.assertEqual(ladder_of(tree, at, look), sorted(wanted), (sample, at, look))

    def test_the_list_told_is_a_new_one(self):
        tree = beneath_root([WOOD, IRON], "near", ANY, ANY)
        told = ladder_of(tree, (), (1, 1))
        self.assertIsInstance(told, list)
        told.clear()
        self.assertEqual(ladder_of(tree, (), (1, 1)), [(5, 0, 0, (2,)), (5, 0, 1, (1,))])
        self.assertEqual(picked(tree, (), (1, 1)), (2,))


class Ways(unittest.TestCase):
    def test_of_one_to_four_numbers(self):
        self.assertEqual(way_of(Tree(*ONE_ROW), (1,)), [(84,)])
        self.assertEqual(way_of(Tree(*TWENTY_FOUR), (1, 2)), [(99,)])
        self.assertEqual(way_of(Tree(*CHAINS), (1, 2)), [(6,), (6, 99), (6, 99, 1), (6, 99, 1, 2)])
        self.assertEqual(way_of(Tree(*CHAINS), (1, 0)), [(5,), (5, 99), (5, 99, 1), (5, 99, 1, 2)])
        tree = Tree(*FOUR_DEEP)
        for look, way in (
            ((0, 0, 1, 0), [(44,), (44, 1)]),
            ((1, 0, 2, 0), [(44,), (44, 1)]),
            ((1, 0, 1, 0), [(44,), (44, 9), (44, 9, 1)]),
            ((1, 0, 0, 0), [(44,), (44, 9), (44, 9, 2), (44, 9, 2, 7)]),
            ((0, 0, 0, 1), [(84,), (84, 2)]),
            ((2, 0, 0, 1), [(84,), (84, 2)]),
            ((1, 2, 0, 0), [(84,), (84, 1), (84, 1, 4)]),
            ((2, 1, 0, 0), [(84,), (84, 1), (84, 1, 3)]),
            ((0, 1, 2, 0), [(84,), (84, 1), (84, 1, 5)]),
        ):
            with self.subTest(look):
                self.assertEqual(way_of(tree, look), way)

    def test_by_the_words_of_the_document(self):
        for sample in SAMPLES:
            tree = Tree(*sample)
            for look in looks_by_words(len(sample[0])):
                self.assertEqual(met(way_of, tree, look), wanted_way(sample, look), (sample, look))

    def test_the_list_told_is_a_new_one(self):
        tree = Tree(*CHAINS)
        way_of(tree, (1, 2)).clear()
        told = way_of(tree, (1, 2))
        self.assertIsInstance(told, list)
        self.assertEqual(told, [(6,), (6, 99), (6, 99, 1), (6, 99, 1, 2)])


class Headings(unittest.TestCase):
    def test_in_one_part_and_in_many(self):
        tree = Tree(*FOUR_DEEP)
        for parts, heading in (
            ([("iron", "tool", 1)], (84, 1, 4)),
            ([("wood", "toy", 9)], (44, 9, 2, 7)),
            ([("wood", "toy", 3), ("ironore", "toy", 3)], (44, 9, 1)),
            ([("ironore", "toy", 3), ("wood", "toy", 2), ("wood", "toy", 1)], (44, 9, 1)),
            ([("ironore", "toy", 4), ("wood", "toy", 2), ("wood", "toy", 1)], (44, 1)),
            ([("ironore", "toy", 1)] * 20 + [("wood", "toy", 1)] * 20, (44, 9, 1)),
            ([("ironore", "toy", 1)] * 21 + [("wood", "toy", 1)] * 19, (44, 1)),
            ([("iron", "tool", 1)] * 39 + [("wood", "toy", 40)], (84, 1, 3)),
            ([("iron", "to", TOP - 1), ("wood", "toy", 1)], (84, 2)),
            ([("iron", "to", TOP)], (84, 2)),
        ):
            with self.subTest(parts[:3]):
                self.assertEqual(heading_of(tree, parts), heading)
                self.assertEqual(heading_of(tree, parts[::-1]), heading)

    def test_weights_with_the_same_look(self):
        for sample in CLEAR:
            tree = Tree(*sample)
            kinds = sample[0]
            for look in looks_by_words(len(kinds))[::3]:
                heading = way_by_words(sample, look)[0][-1]
                for weights in (look, [7 * rank for rank in look], [rank and 10 ** rank + 3 for rank in look],
                                [rank and 10 ** 14 + rank for rank in look]):
                    parts = parcel_of(kinds, weights)
                    self.assertEqual(heading_of(tree, parts), heading)
                    halves = parcel_of(kinds, [weight // 2 for weight in weights])
                    rests = parcel_of(kinds, [weight - weight // 2 for weight in weights])
                    self.assertEqual(heading_of(tree, rests + halves), heading)
                    self.assertEqual(heading_of(tree, halves[::-1] + rests), heading)

    def test_the_parcel_of_a_refusal_is_that_of_the_look(self):
        tree = Tree(*UNCLEAR[0])
        for parts, parcel in (
            ([("iron", "tool", 900), ("wood", "toy", 70)], [("wood", "toy", 1), ("iron", "tool", 2)]),
            ([("iron", "tool", 70), ("wood", "toy", 900)], [("wood", "toy", 2), ("iron", "tool", 1)]),
            ([("iron", "tool", TOP - 7), ("wood", "toy", 7)], [("wood", "toy", 1), ("iron", "tool", 2)]),
            ([("iron", "tool", 3)] * 20 + [("wood", "toy", 60)], [("wood", "toy", 1), ("iron", "tool", 1)]),
        ):
            with self.subTest(parts[:3]):
                self.assertEqual(met(heading_of, tree, parts), ("two", parcel, (), (1,), (2,)))
        tree = Tree(*UNCLEAR[1])
        parts = [("iron", "tool", 50), ("wood", "toy", 50)]
        self.assertEqual(met(heading_of, tree, parts), ("none", [("wood", "toy", 1), ("iron", "tool", 1)], ()))

    def test_at_a_number_beneath_the_root(self):
        tree = Tree(*UNCLEAR[3])
        self.assertEqual(
            met(heading_of, tree, [("iron", "tool", 40)]), ("two", [("iron", "tool", 1)], (7,), (7, 2), (7, 3)),
        )
        self.assertEqual(
            met(heading_of, tree, [("tin", "can", 40)]), ("two", [("tin", "can", 1)], (7,), (7, 1), (7, 2)),
        )
        self.assertEqual(met(heading_of, tree, [("wood", "toy", 40)]), ("none", [("wood", "toy", 1)], (8,)))
        self.assertEqual(heading_of(tree, [("wood", "toy", 40), ("tin", "can", 1)]), (8, 1))

    def test_at_a_number_deep_beneath(self):
        rows = [((1,), ANY, "one"), ((1, 1), ANY, "one"), ((1, 1, 1), ANY, "one"), ((1, 1, 1, 1), NO_WOOD, "one")]
        tree = Tree([WOOD, IRON], "one", rows)
        parts = [("wood", "toy", 5), ("iron", "tool", 4)]
        refusal = ("none", [("wood", "toy", 2), ("iron", "tool", 1)], (1, 1, 1))
        self.assertEqual(met(heading_of, tree, parts), refusal)
        self.assertEqual(heading_of(tree, parts[1:]), (1, 1, 1, 1))
        tree = Tree([WOOD, IRON], "one", rows + [((1, 1, 1, 3), ANY, "one")])
        refusal = ("two", [("iron", "tool", 1)], (1, 1, 1), (1, 1, 1, 1), (1, 1, 1, 3))
        self.assertEqual(met(heading_of, tree, parts[1:]), refusal)

    def test_what_was_handed_in_stays(self):
        parts = [("wood", "toy", 3), ("ironore", "toy", 1), ("wood", "toy", 3)]
        heading_of(Tree(*FOUR_DEEP), parts)
        self.assertEqual(parts, [("wood", "toy", 3), ("ironore", "toy", 1), ("wood", "toy", 3)])


class NoParts(unittest.TestCase):
    def refused(self, parts):
        # Of the second tree no parcel has a heading: what are no parts is refused ahead of that.
        for sample in (FOUR_DEEP, (FOUR_DEEP[0], "one", [((1,), ("made", "tin"), "one")])):
            with self.subTest(named(parts)), self.assertRaises(NoGoods):
                heading_of(Tree(*sample), parts)

    def test_none_and_forty_one(self):
        self.refused([])
        self.refused([("iron", "tool", 1)] * 41)

    def test_too_heavy(self):
        self.refused([("iron", "tool", TOP + 1)])
        self.refused([("iron", "tool", TOP), ("wood", "toy", 1)])

    def test_a_part_that_is_none(self):
        for part in (
            ["iron", "tool", 1], ("iron", "tool"), ("iron", "tool", 1, 1), (IRON, 1), ("tin", "can", 1), (), None,
            ("iron", "toy", 1), ("wood", "tool", 1), "iron.tool:1",
        ):
            self.refused([part])
            self.refused([("iron", "tool", 1), part])
        for weight in no_wholes() + [0, -1]:
            self.refused([("iron", "tool", weight)])
        for name in no_names():
            self.refused([("wood", "toy", 1), (name, "tool", 1)])

    def test_things_of_any_kind(self):
        for thing in things() + [(("iron", "tool", 1),), {("iron", "tool", 1): 1}]:
            self.refused(thing)
            self.refused([thing])
        self.refused(("iron", "tool", 1))


class GoneThrough(unittest.TestCase):
    def test_one_kind(self):
        self.assertEqual(audit_of(Tree(*ONE_ROW)), [((1,), (84,))])

    def test_two_kinds(self):
        tree = beneath_root([WOOD, IRON], "near", ANY, ("made", "iron"), ("chief", "wood"))
        self.assertEqual(
            audit_of(tree), [((1, 0), (3,)), ((0, 1), (2,)), ((1, 1), (3,)), ((1, 2), (2,)), ((2, 1), (3,))],
        )

    def test_the_first_look_that_has_none(self):
        for sample, refusal in (
            (UNCLEAR[0], ("two", [("wood", "toy", 1), ("iron", "tool", 1)], (), (1,), (2,))),
            (UNCLEAR[1], ("none", [("wood", "toy", 1), ("iron", "tool", 1)], ())),
            (UNCLEAR[2], ("none", [("wood", "toy", 1)], ())),
            (UNCLEAR[3], ("two", [("iron", "tool", 1)], (7,), (7, 2), (7, 3))),
        ):
            with self.subTest(refusal):
                self.assertEqual(met(audit_of, Tree(*sample)), refusal)

    def test_by_rising_keys_and_not_by_the_looks_themselves(self):
        kinds = [WOOD, IRON, TIN]
        # (0, 1, 1) is less than (1, 1, 0) as a tuple, but its key is greater.
        note = ("either", ("both", ("made", "iron"), ("made", "tin")), ("both", ("made", "iron"), ("made", "wood")))
        refusal = ("none", [("wood", "toy", 1), ("iron", "tool", 1)], ())
        self.assertEqual(met(audit_of, beneath_root(kinds, "near", ("but", ANY, note))), refusal)
        # (2, 1, 0) has a greater number within it than (1, 0, 1), but its key is less.
        heavier = ("both", ("made", "iron"), ("over", WOOD, IRON))
        without = ("but", ("both", ("made", "wood"), ("made", "tin")), ("made", "iron"))
        tree = beneath_root(kinds, "near", ("but", ANY, ("either", heavier, without)))
        self.assertEqual(met(audit_of, tree), ("none", [("wood", "toy", 2), ("iron", "tool", 1)], ()))

    def test_by_the_words_of_the_document(self):
        for sample in SAMPLES:
            self.assertEqual(met(audit_of, Tree(*sample)), wanted_audit(sample), sample)

    def test_the_list_told_is_a_new_one(self):
        tree = Tree(*ONE_ROW)
        told = audit_of(tree)
        self.assertIsInstance(told, list)
        told.clear()
        self.assertEqual(audit_of(tree), [((1,), (84,))])


class ThePromise(unittest.TestCase):
    def test_a_clear_tree_has_a_heading_for_each_parcel(self):
        for sample in SAMPLES:
            kinds = sample[0]
            tree = Tree(*sample)
            told = met(audit_of, tree)
            if isinstance(told, list):
                for weights in itertools.product(range(4 if len(kinds) == 4 else 6), repeat=len(kinds)):
                    if any(weights):
                        ranks = sorted({weight for weight in weights if weight})
                        look = tuple(ranks.index(weight) + 1 if weight else 0 for weight in weights)
                        self.assertEqual(heading_of(tree, parcel_of(kinds, weights)), dict(told)[look])

    def test_of_another_the_least_parcel_that_has_none_is_told(self):
        for sample in UNCLEAR + DRAWN:
            kinds = sample[0]
            tree = Tree(*sample)
            told = met(audit_of, tree)
            if isinstance(told, tuple) and len(kinds) < 4:
                refusals = []
                for weights in itertools.product(range(5), repeat=len(kinds)):
                    if any(weights):
                        refusal = met(heading_of, tree, parcel_of(kinds, weights))
                        if isinstance(refusal[0], str):
                            there = [place for place, weight in enumerate(weights) if weight]
                            key = (len(there), there, [weights[place] for place in there])
                            refusals.append((key, parcel_of(kinds, weights), refusal))
                least = min(refusals)
                self.assertEqual(least[1], told[1])
                self.assertEqual(least[2], told)


if __name__ == "__main__":
    unittest.main()
