import unittest

from tariffgate.errors import NoKinds, NoNote, NoTree
from tariffgate.tree import Tree
from things import (
    ANY, BAR, CHAINS, CLEAR, DEEP, DEEPER, DRAWN, FOUR_DEEP, IRON, ONE_ROW, ONES, ORDERS, ORE, TIN, TWENTY_FOUR, TWOS,
    UNCLEAR, WOOD, Spiteful, claims_by_words, deep_tuple, looked_by_words, looks_by_words, named, things,
)

SAMPLES = CLEAR + UNCLEAR + DRAWN
WRONG_NOTE = ("made", "Iron")
HEAD = ((84,), ANY, "one")


def counted(told, kinds):
    """How many looks a note claims, asked of a tree that holds nothing else."""
    return Tree(kinds, "one", [((1,), told, "one")]).looked((1,))


class Made(unittest.TestCase):
    def test_one_row(self):
        tree = Tree(*ONE_ROW)
        self.assertEqual(tree.kinds(), [IRON])
        self.assertEqual(tree.below(()), [(84,)])
        self.assertEqual(tree.below((84,)), [])
        self.assertEqual(tree.rule_at(()), "one")
        self.assertEqual(tree.rule_at((84,)), "near")
        self.assertEqual(tree.note_at((84,)), ("any",))

    def test_numbers_of_one_to_four_parts(self):
        tree = Tree(*FOUR_DEEP)
        self.assertEqual(tree.kinds(), [WOOD, IRON, ORE, BAR])
        for at, below in (
            ((), [(44,), (84,)]), ((44,), [(44, 1), (44, 9)]), ((84,), [(84, 1), (84, 2)]), ((44, 1), []),
            ((44, 9), [(44, 9, 1), (44, 9, 2)]), ((84, 1), [(84, 1, 3), (84, 1, 4), (84, 1, 5)]), ((84, 2), []),
            ((44, 9, 1), []), ((44, 9, 2), [(44, 9, 2, 7)]), ((84, 1, 3), []), ((44, 9, 2, 7), []),
        ):
            with self.subTest(at):
                self.assertEqual(tree.below(at), below)

    def test_twenty_four_rows(self):
        self.assertEqual(Tree(*TWENTY_FOUR).below(()), [(place,) for place in range(76, 100)])
        tree = Tree(*CHAINS)
        self.assertEqual(tree.below(()), [(1,), (2,), (3,), (4,), (5,), (6,)])
        self.assertEqual(tree.below((3, 99, 1)), [(3, 99, 1, 2)])

    def test_each_row_as_it_was_told(self):
        for kinds, root, rows in SAMPLES:
            tree = Tree(kinds, root, rows)
            self.assertEqual(tree.kinds(), kinds)
            self.assertEqual(tree.rule_at(()), root)
            self.assertEqual(tree.below(()), sorted(row[0] for row in rows if len(row[0]) == 1))
            for number, note, rule in rows:
                beneath = [row[0] for row in rows if row[0][:-1] == number]
                self.assertEqual(tree.below(number), sorted(beneath))
                self.assertEqual(tree.note_at(number), note)
                self.assertEqual(tree.rule_at(number), rule)

    def test_rows_in_any_order(self):
        kinds, root, rows = FOUR_DEEP
        for order in (rows, rows[::-1], sorted(rows), sorted(rows)[::-1], rows[5:] + rows[:5]):
            tree = Tree(kinds, root, order)
            self.assertEqual(tree.below((84, 1)), [(84, 1, 3), (84, 1, 4), (84, 1, 5)])
            self.assertEqual(tree.note_at((44, 9)), ("chief", "wood"))

    def test_numbers_in_their_order_as_tuples(self):
        numbers = [(99,), (1,), (10,), (2,), (9,), (1, 10), (1, 9), (1, 99), (1, 1), (10, 1)]
        tree = Tree([IRON], "near", [(number, ANY, "one") for number in numbers])
        self.assertEqual(tree.below(()), [(1,), (2,), (9,), (10,), (99,)])
        self.assertEqual(tree.below((1,)), [(1, 1), (1, 9), (1, 10), (1, 99)])
        self.assertEqual(tree.below((10,)), [(10, 1)])
        self.assertEqual(tree.below((9,)), [])

    def test_the_edges_of_a_number(self):
        numbers = [(1,), (99,), (99, 99), (99, 99, 1), (99, 99, 1, 99), (1, 1), (1, 1, 1), (1, 1, 1, 1)]
        tree = Tree([IRON], "near", [(number, ANY, "one") for number in numbers])
        self.assertEqual(tree.below((99, 99, 1)), [(99, 99, 1, 99)])

    def test_notes_may_name_what_is_not_among_the_kinds(self):
        tree = Tree([IRON], "one", [((1,), ("over", TIN, ORE), "one"), ((2,), ("made", "tin"), "one")])
        self.assertIs(tree.claims((1,), (1,)), False)
        self.assertIs(tree.claims((2,), (1,)), False)

    def test_what_it_claims(self):
        for kinds, root, rows in CLEAR + UNCLEAR + DRAWN[::5]:
            tree = Tree(kinds, root, rows)
            for number, note, rule in rows:
                for look in looks_by_words(len(kinds)):
                    self.assertIs(tree.claims(number, look), claims_by_words(note, kinds, look), (note, kinds, look))

    def test_depth_five_is_taken(self):
        note = ("both", ANY, ("either", ANY, ("but", ANY, ("both", ANY, ("made", "iron")))))
        self.assertEqual(Tree([WOOD], "one", [((1,), note, "one")]).note_at((1,)), note)


class Counted(unittest.TestCase):
    def test_by_hand(self):
        for kinds, told, many in (
            ([IRON], ANY, 1), ([IRON], ("made", "iron"), 1), ([IRON], ("made", "wood"), 0),
            ([IRON], ("over", IRON, IRON), 0), ([IRON], ("over", IRON, WOOD), 1),
            ([WOOD, IRON], ANY, 5), ([WOOD, IRON], ("made", "iron"), 4), ([WOOD, IRON], ("chief", "iron"), 3),
            ([WOOD, IRON], ("over", IRON, WOOD), 2), ([WOOD, IRON], ("both", ("made", "iron"), ("made", "wood")), 3),
            ([WOOD, IRON], ("but", ("made", "iron"), ("made", "wood")), 1),
            ([WOOD, IRON], ("either", ("chief", "wood"), ("chief", "iron")), 5),
            ([IRON, BAR], ("made", "iron"), 5), ([IRON, BAR], ("used", "to"), 4),
            ([WOOD, IRON, ORE], ANY, 25), ([WOOD, IRON, ORE], ("made", "iron"), 20),
            ([WOOD, IRON, ORE], ("but", ANY, ("made", "iron")), 5), ([WOOD, IRON, ORE], ("used", "toy"), 24),
            ([WOOD, IRON, ORE, BAR], ANY, 149), ([WOOD, IRON, ORE, BAR], ("made", "wood"), 124),
            ([WOOD, IRON, ORE, BAR], ("made", "iron"), 144), ([WOOD, IRON, ORE, BAR], ("made", "tin"), 0),
        ):
            with self.subTest(told, kinds=kinds):
                self.assertEqual(counted(told, kinds), many)

    def test_by_the_words_of_the_document(self):
        for kinds in ORDERS:
            for told in (ONES + TWOS)[::6] + DEEPER[::40] + DEEP:
                self.assertEqual(counted(told, kinds), looked_by_words(told, tuple(kinds)), (told, kinds))

    def test_each_of_several_rows(self):
        for kinds, root, rows in SAMPLES:
            tree = Tree(kinds, root, rows)
            for number, note, rule in rows:
                self.assertEqual(tree.looked(number), looked_by_words(note, tuple(kinds)))

    def test_said_otherwise_it_is_the_same(self):
        iron, wood = ("made", "iron"), ("made", "wood")
        for one, other in (
            (iron, ("both", iron, iron)), (iron, ("either", iron, iron)), (iron, ("but", iron, ("made", "tin"))),
            (("both", iron, wood), ("both", wood, iron)), (("either", iron, wood), ("either", wood, iron)),
            (iron, ("but", ANY, ("but", ANY, iron))), (iron, ("over", IRON, TIN)), (("used", "tool"), iron),
            (("chief", "wood"), ("but", ANY, ("either", ("over", IRON, WOOD), ("over", ORE, WOOD)))),
        ):
            for kinds in ([WOOD, IRON, ORE], [ORE, IRON, WOOD]):
                self.assertEqual(counted(one, kinds), counted(other, kinds), (one, other))

    def test_it_never_changes(self):
        tree = Tree(*FOUR_DEEP)
        first = tree.looked((84,))
        for look in looks_by_words(4)[::11]:
            tree.claims((84,), look)
            tree.below(()).clear()
            tree.kinds().clear()
            self.assertEqual(tree.looked((84,)), first)


class RefusedTree(unittest.TestCase):
    def refused(self, rows, rule="one", kinds=None, error=NoTree):
        with self.subTest(named(rows)), self.assertRaises(error):
            Tree([IRON, WOOD] if kinds is None else kinds, rule, rows)

    def refused_within(self, row):
        """In each place of a row of rows."""
        for rows in ([row], [row, HEAD], [HEAD, row], [((85,), ANY, "near"), row, HEAD]):
            self.refused(rows)

    def test_a_rule_of_the_root(self):
        for rule in things() + ["One", "NEAR", "two", "one ", " near", "", "ne", "on", ["one"], ("near",), "onenear"]:
            self.refused([HEAD], rule)

    def test_a_rule_of_a_row(self):
        for rule in things() + ["One", "NEAR", "two", "one ", " near", "", "ne", "on", ["one"], ("near",), "onenear"]:
            self.refused_within(((1,), ANY, rule))

    def test_none_and_twenty_five(self):
        self.refused([])
        self.refused([((place,), ANY, "one") for place in range(1, 26)])
        self.refused([((place,), ANY, "one") for place in range(1, 100)])
        self.refused([((1,), ANY, "one")] + [((1, place), ANY, "one") for place in range(1, 25)])

    def test_things_of_any_kind_in_the_place_of_the_rows(self):
        for thing in things() + [(HEAD,), HEAD, {(84,): HEAD}, {HEAD: 1}, frozenset([HEAD]), iter([HEAD]), "84 any"]:
            self.refused(thing)

    def test_a_row_that_is_none(self):
        for row in (
            [(1,), ANY, "one"], (), ((1,),), ((1,), ANY), ((1,), ANY, "one", "one"), ((1,), ANY, "one", None),
            (ANY, (1,), "one"), ("one", ANY, (1,)), ((1,), "one", ANY), ((1,), "one"), "1 any one", None, 1,
            {(1,): ANY}, (((1,), ANY, "one"),),
        ):
            self.refused_within(row)

    def test_things_of_any_kind_in_the_place_of_a_row(self):
        for thing in things():
            self.refused_within(thing)

    def test_a_number_that_is_none(self):
        for number in [thing for thing in things() if not isinstance(thing, tuple)] + [
            (), ("iron",), deep_tuple(), (84, deep_tuple()), (84, Spiteful()), (Spiteful(),), (0,), (100,), (-1,),
            (1.0,), (True,), ("1",), (None,), [1], "1", 1, (84, 0), (84, 100), (84, True),
            (84, 1.0), (84, None), [84, 1], ((84,), 1), (84, (1,)), {84: 1},
        ]:
            self.refused_within((number, ANY, "one"))

    def test_too_many_parts(self):
        deep = [(1,), (1, 1), (1, 1, 1), (1, 1, 1, 1)]
        self.refused([(number, ANY, "one") for number in deep + [(1, 1, 1, 1, 1)]])

    def test_a_number_twice(self):
        self.refused([HEAD, HEAD])
        self.refused([((1,), ANY, "one"), ((2,), ANY, "near"), ((1,), ("made", "iron"), "near")])
        self.refused([((1,), ANY, "one"), ((1, 2), ANY, "near"), ((3,), ANY, "near"), ((1, 2), ANY, "near")])

    def test_a_number_beneath_one_that_is_no_rows(self):
        for numbers in (
            [(1, 1)], [(2,), (1, 1)], [(1, 1), (2,)], [(1,), (1, 1, 1)], [(1,), (2,), (2, 1), (1, 1, 1)],
            [(1,), (1, 1), (1, 1, 1, 1)], [(1,), (1, 1), (1, 2, 1)], [(1,), (11, 1)], [(1, 1), (1, 1, 1)],
        ):
            self.refused([(number, ANY, "one") for number in numbers])


class RefusedNotes(unittest.TestCase):
    def refused(self, note):
        for rows in (
            [((1,), note, "one")],
            [((1,), note, "one"), HEAD],
            [HEAD, ((84, 1), note, "near")],
            [HEAD, ((85,), note, "near"), ((86,), ANY, "one")],
        ):
            with self.subTest(named(note)), self.assertRaises(NoNote):
                Tree([IRON, WOOD], "near", rows)

    def test_things_of_any_kind(self):
        for thing in things():
            self.refused(thing)

    def test_a_note_that_is_none(self):
        for note in (
            WRONG_NOTE, ["any"], (), ("any", None), ("anything",), ("made",), ("made", "iron", "wood"), ("both", ANY),
            ("over", IRON), ("over", IRON, "wood"), ("over", list(IRON), WOOD), ("both", ANY, ["any"]), "any", None,
            ("both", ANY, ("both", ANY, ("both", ANY, ("both", ANY, ("both", ANY, ANY))))),
        ):
            self.refused(note)


class RefusedKinds(unittest.TestCase):
    def refused(self, kinds, rule="one", rows=(HEAD,)):
        with self.subTest(named(kinds)), self.assertRaises(NoKinds):
            Tree(kinds, rule, list(rows))

    def test_things_of_any_kind(self):
        for thing in things() + [(IRON,), {IRON: WOOD}, list(IRON), IRON + ("x",), ("Iron", "tool")]:
            self.refused(thing)
            self.refused([thing])
            self.refused([IRON, thing])
        self.refused(IRON)

    def test_none_five_and_one_twice(self):
        self.refused([])
        self.refused([WOOD, IRON, ORE, BAR, TIN])
        self.refused([WOOD, IRON, WOOD])


class WhichComesFirst(unittest.TestCase):
    def test_kinds_ahead_of_all(self):
        note = ((1,), WRONG_NOTE, "one")
        for rule, rows in (
            ("two", [HEAD]), ("one", []), ("one", None), ("one", [None]), ("one", [((0,), ANY, "one")]),
            ("one", [note]), ("one", [((1,), ANY, "two")]), ("two", [note, None]), (None, None),
            ("one", [((1, 1), ANY, "one")]),
        ):
            for kinds in ([], None, (IRON,), [IRON, IRON]):
                with self.subTest(named(kinds)), self.assertRaises(NoKinds):
                    Tree(kinds, rule, rows)

    def test_whatever_is_no_tree_ahead_of_notes(self):
        note = ((1,), WRONG_NOTE, "one")
        for row in (
            None, [(2,), ANY, "one"], ((2,), ANY), ((2,), ANY, "one", 1), ((0,), ANY, "one"), ((2,), ANY, "two"),
            ((1,), ANY, "one"), ((2, 1), ANY, "one"), ((1, 1, 1), ANY, "one"), ((True,), ANY, "one"), (2, ANY, "one"),
        ):
            for rows in ([note, row], [row, note], [HEAD, note, row], [note, HEAD, row], [row, HEAD, note]):
                with self.subTest(row), self.assertRaises(NoTree):
                    Tree([IRON], "one", rows)

    def test_a_row_with_a_wrong_note_and_something_else_wrong(self):
        for row in (((0,), WRONG_NOTE, "one"), ((1,), WRONG_NOTE, "two"), ((1, 1), None, "one"), ((1,), None, None)):
            with self.subTest(row), self.assertRaises(NoTree):
                Tree([IRON], "one", [row])

    def test_a_wrong_rule_of_the_root_beside_a_wrong_note(self):
        with self.assertRaises(NoTree):
            Tree([IRON], "two", [((1,), WRONG_NOTE, "one")])

    def test_too_many_rows_beside_wrong_notes(self):
        with self.assertRaises(NoTree):
            Tree([IRON], "one", [((place,), WRONG_NOTE, "one") for place in range(1, 26)])


class Kept(unittest.TestCase):
    def test_what_was_handed_in_stays(self):
        kinds, root, rows = list(FOUR_DEEP[0]), FOUR_DEEP[1], list(FOUR_DEEP[2])
        tree = Tree(kinds, root, rows)
        tree.below(())
        tree.looked((84,))
        tree.claims((84,), (1, 2, 0, 0))
        self.assertEqual((kinds, root, rows), FOUR_DEEP)

    def test_what_was_refused_stays_and_may_be_mended(self):
        kinds, rows = [IRON], [((1,), ANY, "one"), ((2,), WRONG_NOTE, "one")]
        with self.assertRaises(NoNote):
            Tree(kinds, "one", rows)
        self.assertEqual((kinds, rows), ([IRON], [((1,), ANY, "one"), ((2,), WRONG_NOTE, "one")]))
        rows[1] = ((2,), ANY, "one")
        self.assertEqual(Tree(kinds, "one", rows).below(()), [(1,), (2,)])

    def test_changing_what_was_handed_in_changes_nothing(self):
        kinds, rows = list(FOUR_DEEP[0]), list(FOUR_DEEP[2])
        tree = Tree(kinds, "near", rows)
        claimed = [tree.claims((84,), look) for look in looks_by_words(4)]
        kinds.reverse()
        kinds[0] = TIN
        rows.clear()
        self.assertEqual(tree.kinds(), FOUR_DEEP[0])
        self.assertEqual(tree.below(()), [(44,), (84,)])
        self.assertEqual(tree.note_at((84,)), ("made", "iron"))
        self.assertEqual(tree.looked((84,)), 144)
        self.assertEqual([tree.claims((84,), look) for look in looks_by_words(4)], claimed)

    def test_changing_what_was_told_changes_nothing(self):
        tree = Tree(*FOUR_DEEP)
        claimed = [tree.claims((84,), look) for look in looks_by_words(4)]
        for told in (tree.kinds(), tree.below(()), tree.below((84, 1)), tree.below((84, 2))):
            self.assertIsInstance(told, list)
            told.reverse()
            told.append((7,))
        self.assertEqual(tree.kinds(), FOUR_DEEP[0])
        self.assertEqual(tree.below(()), [(44,), (84,)])
        self.assertEqual(tree.below((84, 1)), [(84, 1, 3), (84, 1, 4), (84, 1, 5)])
        self.assertEqual(tree.below((84, 2)), [])
        self.assertEqual([tree.claims((84,), look) for look in looks_by_words(4)], claimed)

    def test_two_trees_have_nothing_in_common(self):
        one = Tree(*FOUR_DEEP)
        other = Tree([IRON], "one", [((44,), ("made", "tin"), "near"), ((84,), ANY, "near")])
        self.assertEqual((one.rule_at((84,)), other.rule_at((84,))), ("one", "near"))
        self.assertEqual((one.looked((44,)), other.looked((44,))), (149, 0))
        self.assertEqual((one.below((44,)), other.below((44,))), ([(44, 1), (44, 9)], []))


if __name__ == "__main__":
    unittest.main()
