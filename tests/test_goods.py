import unittest

from tariffgate.errors import NoGoods, NoKinds
from tariffgate.goods import folded, kinds_of, parts_of, weight_of
from things import named, no_names, no_wholes, things

TOP = 10 ** 15
IRON = ("iron", "tool")
WOOD = ("wood", "toy")
TOY = ("iron", "toy")
LONG = ("abcdefgh", "zzzzzzzz")
FOUR = [WOOD, IRON, LONG, TOY]


class KindsTaken(unittest.TestCase):
    def test_one_to_four_in_the_told_order(self):
        for many in (1, 2, 3, 4):
            for kinds in (FOUR[:many], FOUR[::-1][:many], sorted(FOUR)[:many]):
                told = kinds_of(list(kinds))
                self.assertEqual(told, kinds)
                self.assertIsInstance(told, list)

    def test_names_may_stand_in_several_kinds(self):
        for kinds in (
            [("a", "b"), ("b", "a")], [("a", "a")], [("a", "a"), ("a", "b"), ("b", "a"), ("b", "b")],
            [("iron", "tool"), ("ironore", "tool"), ("iron", "to")],
        ):
            self.assertEqual(kinds_of(kinds), kinds)

    def test_the_list_told_is_a_new_one(self):
        handed = [WOOD, IRON]
        told = kinds_of(handed)
        self.assertIsNot(told, handed)
        told.append(TOY)
        told[0] = TOY
        self.assertEqual(handed, [WOOD, IRON])
        again = kinds_of(handed)
        handed.clear()
        self.assertEqual(again, [WOOD, IRON])

    def test_what_was_handed_in_stays(self):
        handed = [WOOD, IRON, TOY]
        kinds_of(handed)
        self.assertEqual(handed, [WOOD, IRON, TOY])
        handed = [WOOD, IRON, WOOD]
        with self.assertRaises(NoKinds):
            kinds_of(handed)
        self.assertEqual(handed, [WOOD, IRON, WOOD])

    def test_good_ones_are_taken_behind_a_refusal(self):
        handed = [WOOD, IRON, ["iron", "toy"]]
        with self.assertRaises(NoKinds):
            kinds_of(handed)
        handed[2] = TOY
        self.assertEqual(kinds_of(handed), [WOOD, IRON, TOY])


class KindsRefused(unittest.TestCase):
    def refused(self, some):
        with self.subTest(named(some)), self.assertRaises(NoKinds):
            kinds_of(some)

    def test_none_and_five(self):
        self.refused([])
        self.refused(FOUR + [("tin", "can")])
        self.refused([("a" * (many // 8 + 1), "abcdefgh"[many % 8]) for many in range(64)])

    def test_a_kind_twice(self):
        self.refused([IRON, IRON])
        self.refused([IRON, WOOD, IRON])
        self.refused([WOOD, IRON, TOY, TOY])
        self.refused([WOOD, IRON, TOY, WOOD])

    def test_a_kind_that_is_none(self):
        for kind in (
            ["iron", "tool"], (), ("iron",), ("iron", "tool", "more"), ("iron", "tool", 1), "iron", "io",
            {"iron": "tool"}, None, 1, (("iron", "tool"),), ("irontool",),
        ):
            self.refused([kind])
            self.refused([kind, WOOD])
            self.refused([WOOD, kind])
            self.refused([WOOD, TOY, LONG, kind])

    def test_a_name_that_is_none(self):
        for name in no_names():
            self.refused([(name, "tool")])
            self.refused([("iron", name)])
            self.refused([WOOD, (name, name)])
            self.refused([WOOD, ("iron", name), TOY])

    def test_things_of_any_kind_in_the_place_of_a_kind(self):
        for thing in things():
            self.refused([thing])
            self.refused([WOOD, thing, TOY])
            self.refused([thing, thing])

    def test_things_of_any_kind_in_the_place_of_the_list(self):
        for thing in things() + [(IRON,), (IRON, WOOD), "iron.tool", {IRON: WOOD}, frozenset([IRON]), iter([IRON])]:
            self.refused(thing)


class Folded(unittest.TestCase):
    def test_one_part(self):
        self.assertEqual(folded([IRON], [("iron", "tool", 1)]), [1])
        self.assertEqual(folded([WOOD, IRON], [("iron", "tool", 7)]), [0, 7])
        self.assertEqual(folded([IRON, WOOD], [("iron", "tool", 7)]), [7, 0])

    def test_several_parts_of_one_kind(self):
        parts = [("iron", "toy", 3), ("wood", "toy", 20), ("iron", "toy", 4), ("iron", "tool", 1), ("iron", "toy", 3)]
        self.assertEqual(folded([WOOD, TOY, IRON], parts), [20, 10, 1])
        self.assertEqual(folded([IRON, TOY, WOOD], parts), [1, 10, 20])
        self.assertEqual(folded(FOUR, parts), [20, 1, 0, 10])
        self.assertEqual(folded(FOUR, parts[::-1]), [20, 1, 0, 10])
        self.assertIsInstance(folded(FOUR, parts), list)

    def test_forty_parts(self):
        self.assertEqual(folded([WOOD, IRON], [("iron", "tool", 2)] * 40), [0, 80])
        parts = [FOUR[place % 4] + (place + 1,) for place in range(40)]
        self.assertEqual(folded(FOUR, parts), [190, 200, 210, 220])

    def test_together_as_much_as_may_be(self):
        self.assertEqual(folded([IRON], [("iron", "tool", TOP)]), [TOP])
        self.assertEqual(folded([WOOD, IRON], [("iron", "tool", TOP - 1), ("wood", "toy", 1)]), [1, TOP - 1])
        self.assertEqual(folded([IRON], [("iron", "tool", TOP // 40)] * 40), [TOP])

    def test_the_list_told_is_a_new_one(self):
        parts = [("iron", "tool", 7)]
        told = folded([WOOD, IRON], parts)
        told[0] = 99
        told.append(5)
        self.assertEqual(folded([WOOD, IRON], parts), [0, 7])

    def test_what_was_handed_in_stays(self):
        kinds = [WOOD, IRON]
        parts = [("iron", "tool", 7), ("wood", "toy", 1), ("iron", "tool", 7)]
        told = folded(kinds, parts)
        self.assertEqual(kinds, [WOOD, IRON])
        self.assertEqual(parts, [("iron", "tool", 7), ("wood", "toy", 1), ("iron", "tool", 7)])
        kinds.clear()
        parts.clear()
        self.assertEqual(told, [1, 14])

    def test_good_ones_are_taken_behind_a_refusal(self):
        parts = [("iron", "tool", 0)]
        with self.assertRaises(NoGoods):
            folded([IRON], parts)
        self.assertEqual(parts, [("iron", "tool", 0)])
        parts[0] = ("iron", "tool", 1)
        self.assertEqual(folded([IRON], parts), [1])


class PartsRefused(unittest.TestCase):
    def refused(self, parts, kinds=FOUR):
        with self.subTest(named(parts)), self.assertRaises(NoGoods):
            folded(kinds, parts)

    def refused_within(self, part):
        """In each place of a row of parts, and in whatever weight the others are."""
        self.refused([part])
        self.refused([part, ("iron", "tool", 1)])
        self.refused([("iron", "tool", 5), part])
        self.refused([("iron", "tool", 5), part, ("iron", "tool", 5)])

    def test_none_and_forty_one(self):
        self.refused([])
        self.refused([("iron", "tool", 1)] * 41)
        self.refused([("iron", "tool", 1)] * 1000)

    def test_too_heavy_together(self):
        self.refused([("iron", "tool", TOP + 1)])
        self.refused([("iron", "tool", 10 ** 60)])
        self.refused([("iron", "tool", TOP), ("iron", "tool", 1)])
        self.refused([("iron", "tool", TOP), ("wood", "toy", 1)])
        self.refused([("iron", "tool", TOP // 40)] * 39 + [("wood", "toy", TOP // 40 + 1)])

    def test_a_weight_that_is_none(self):
        for weight in no_wholes() + [0, -1, -10 ** 60]:
            self.refused_within(("iron", "tool", weight))

    def test_a_part_that_is_none(self):
        for part in (
            ["iron", "tool", 1], (), ("iron",), ("iron", "tool"), ("iron", "tool", 1, 1), ("iron", 1), (IRON, 1),
            (1, "iron", "tool"), ("iron", 1, "tool"), None, "iron.tool:1", {"iron": "tool"}, 1,
        ):
            self.refused_within(part)

    def test_a_name_that_is_none(self):
        for name in no_names():
            self.refused_within((name, "tool", 1))
            self.refused_within(("iron", name, 1))
            self.refused_within((name, name, 1))

    def test_things_of_any_kind_in_the_place_of_a_part(self):
        for thing in things():
            self.refused_within(thing)

    def test_things_of_any_kind_in_the_place_of_the_list(self):
        part = ("iron", "tool", 1)
        for thing in things() + [(part,), part, "iron.tool:1", {part: 1}, frozenset([part]), iter([part])]:
            self.refused(thing)

    def test_a_part_of_none_of_the_kinds(self):
        for part in (
            ("tin", "tool", 1), ("iron", "can", 1), ("tool", "iron", 1), ("wood", "tool", 1), ("iro", "tool", 1),
            ("irons", "tool", 1), ("iron", "tools", 1), ("iron", "too", 1), ("abcdefgh", "zzzzzzz", 1),
        ):
            self.refused_within(part)
        self.refused([("wood", "toy", 1)], [IRON])
        self.refused([("iron", "toy", 1)], [IRON, WOOD])
        self.refused([("wood", "tool", 1)], [IRON, WOOD])


class ToldAsParts(unittest.TestCase):
    def test_one_for_each_that_is_there_in_the_kinds_order(self):
        self.assertEqual(parts_of([IRON], [1]), [("iron", "tool", 1)])
        self.assertEqual(parts_of([WOOD, IRON], [0, 5]), [("iron", "tool", 5)])
        self.assertEqual(parts_of([WOOD, IRON], [2, 5]), [("wood", "toy", 2), ("iron", "tool", 5)])
        self.assertEqual(parts_of([IRON, WOOD], [2, 5]), [("iron", "tool", 2), ("wood", "toy", 5)])
        self.assertEqual(parts_of(FOUR, [0, 3, 0, 3]), [("iron", "tool", 3), ("iron", "toy", 3)])
        self.assertEqual(
            parts_of(FOUR, [4, 3, 2, 1]),
            [("wood", "toy", 4), ("iron", "tool", 3), ("abcdefgh", "zzzzzzzz", 2), ("iron", "toy", 1)],
        )

    def test_weights_of_any_size(self):
        self.assertTrue(parts_of([IRON], [10 ** 5000]) == [("iron", "tool", 10 ** 5000)])
        self.assertEqual(
            parts_of([WOOD, IRON, TOY], (TOP + 1, 0, 10 ** 60)), [("wood", "toy", TOP + 1), ("iron", "toy", 10 ** 60)],
        )

    def test_a_tuple_is_told_like_a_list(self):
        for weights in ([1, 0, 2, 0], [0, 0, 0, 9], [1, 1, 1, 1], [TOP, 0, TOP, 1]):
            self.assertEqual(parts_of(FOUR, tuple(weights)), parts_of(FOUR, weights))
            self.assertIsInstance(parts_of(FOUR, tuple(weights)), list)

    def test_folded_again_they_are_the_same(self):
        for weights in ([1, 0, 2, 0], [0, 0, 0, 9], [1, 1, 1, 1], [TOP - 3, 1, 1, 1], [0, TOP, 0, 0]):
            self.assertEqual(folded(FOUR, parts_of(FOUR, weights)), weights)
            self.assertEqual(folded(FOUR, parts_of(FOUR, tuple(weights))), weights)
        # Told alone they may be of any size; as parts they are bound by what parts may weigh.
        with self.assertRaises(NoGoods):
            folded(FOUR, parts_of(FOUR, [TOP, 1, 0, 0]))

    def test_the_list_told_is_a_new_one(self):
        first = parts_of([WOOD, IRON], [2, 5])
        first.clear()
        self.assertEqual(parts_of([WOOD, IRON], [2, 5]), [("wood", "toy", 2), ("iron", "tool", 5)])

    def test_what_was_handed_in_stays(self):
        kinds = [WOOD, IRON]
        weights = [0, 5]
        told = parts_of(kinds, weights)
        self.assertEqual((kinds, weights), ([WOOD, IRON], [0, 5]))
        kinds.clear()
        weights[1] = 6
        self.assertEqual(told, [("iron", "tool", 5)])


class Weighed(unittest.TestCase):
    def test_lists_and_tuples(self):
        for weights, together in (
            ([1], 1), ([0, 5], 5), ([4, 3, 2, 1], 10), ([1, 1, 1, 1], 4), ([TOP, 0, TOP], 2 * TOP),
            ([10 ** 60, 1], 10 ** 60 + 1),
        ):
            self.assertEqual(weight_of(weights), together)
            self.assertEqual(weight_of(tuple(weights)), together)

    def test_what_was_handed_in_stays(self):
        weights = [4, 0, 1]
        weight_of(weights)
        self.assertEqual(weights, [4, 0, 1])


if __name__ == "__main__":
    unittest.main()
