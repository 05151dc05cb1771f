import unittest

from tariffgate.errors import NoNote
from tariffgate.looks import all_looks
from tariffgate.notes import Anything, Both, But, Chief, Either, Made, Note, Over, Used, note_of
from things import (
    BAR, DEEP, DEEPER, FEW, IRON, ONES, ORDERS, ORE, TIN, TWOS, WOOD, claims_by_words, named, no_names,
    reasons_by_words, things,
)

ANY = ("any",)
PAIRS = ("both", "either", "but")


def by_hand(told):
    """The note of a tuple, made by its classes."""
    if told[0] == "any":
        return Anything()
    if told[0] == "made":
        return Made(told[1])
    if told[0] == "used":
        return Used(told[1])
    if told[0] == "chief":
        return Chief(told[1])
    if told[0] == "over":
        return Over(told[1], told[2])
    one, other = by_hand(told[1]), by_hand(told[2])
    return {"both": Both, "either": Either, "but": But}[told[0]](one, other)


def deepened(told, word, side, many):
    """A note so many times within another one, at the told side."""
    for _ in range(many):
        told = (word, ANY, told) if side else (word, told, ANY)
    return told


class Claims(unittest.TestCase):
    def told(self, told, kinds, claimed, others):
        for note in (by_hand(told), note_of(told)):
            for look in claimed:
                with self.subTest(told, look=look):
                    self.assertIs(note.claims(kinds, look), True)
            for look in others:
                with self.subTest(told, look=look):
                    self.assertIs(note.claims(kinds, look), False)

    def test_any(self):
        for kinds in ORDERS:
            self.told(ANY, kinds, all_looks(len(kinds)), [])

    def test_made(self):
        kinds = [WOOD, IRON, BAR]
        self.told(("made", "wood"), kinds, [(1, 0, 0), (1, 2, 1), (1, 0, 2)], [(0, 1, 0), (0, 1, 1), (0, 2, 1)])
        self.told(("made", "iron"), kinds, [(0, 1, 0), (0, 0, 1), (2, 0, 1), (2, 1, 2)], [(1, 0, 0)])
        self.told(("made", "tin"), kinds, [], all_looks(3))
        self.told(("made", "toy"), kinds, [], all_looks(3))

    def test_used(self):
        kinds = [ORE, IRON, WOOD]
        self.told(("used", "toy"), kinds, [(1, 0, 0), (0, 0, 1), (1, 2, 0), (1, 3, 2)], [(0, 1, 0)])
        self.told(("used", "tool"), kinds, [(0, 1, 0), (2, 1, 0), (2, 1, 3)], [(1, 0, 0), (1, 0, 2)])
        self.told(("used", "iron"), kinds, [], all_looks(3))

    def test_chief(self):
        kinds = [WOOD, IRON, BAR]
        self.told(("chief", "wood"), kinds, [(1, 0, 0), (2, 1, 0), (1, 1, 1), (2, 1, 2)], [(1, 2, 0), (0, 1, 1)])
        self.told(("chief", "iron"), kinds, [(0, 0, 1), (1, 1, 0), (1, 0, 2), (1, 3, 2)], [(1, 0, 0), (2, 1, 1)])
        self.told(("chief", "tin"), kinds, [], all_looks(3))
        self.told(("chief", "tool"), kinds, [], all_looks(3))

    def test_over(self):
        for kinds, turned in (([WOOD, IRON, ORE], False), ([IRON, WOOD, ORE], True)):
            claimed = [(1, 0, 0), (2, 1, 0), (2, 1, 2), (3, 2, 1)]
            others = [(0, 0, 1), (1, 1, 0), (1, 1, 2)]
            swapped = [(look[1], look[0], look[2]) for look in claimed]
            if turned:
                claimed, swapped = swapped, claimed
            self.told(("over", WOOD, IRON), kinds, claimed, others + swapped)

    def test_over_a_kind_that_is_not_among_them(self):
        kinds = [WOOD, IRON]
        self.told(("over", WOOD, TIN), kinds, [(1, 0), (1, 1), (1, 2), (2, 1)], [(0, 1)])
        self.told(("over", TIN, WOOD), kinds, [], all_looks(2))
        self.told(("over", TIN, ORE), kinds, [], all_looks(2))
        self.told(("over", IRON, ("iron", "toy")), kinds, [(0, 1), (2, 1)], [(1, 0)])
        self.told(("over", ("iron", "toy"), WOOD), kinds, [], all_looks(2))
        self.told(("over", IRON, IRON), kinds, [], all_looks(2))

    def test_both_either_but(self):
        kinds = [IRON, WOOD]
        wood, iron = ("made", "wood"), ("made", "iron")
        self.told(("both", wood, iron), kinds, [(1, 1), (1, 2), (2, 1)], [(1, 0), (0, 1)])
        self.told(("either", wood, iron), kinds, all_looks(2), [])
        self.told(("either", wood, ("made", "tin")), kinds, [(0, 1), (1, 1)], [(1, 0)])
        self.told(("either", ("made", "tin"), wood), kinds, [(0, 1), (1, 1)], [(1, 0)])
        self.told(("either", ("made", "tin"), ("used", "can")), kinds, [], all_looks(2))
        self.told(("but", wood, iron), kinds, [(0, 1)], [(1, 0), (1, 1), (1, 2), (2, 1)])
        self.told(("but", iron, wood), kinds, [(1, 0)], [(0, 1), (1, 1), (1, 2), (2, 1)])
        self.told(("but", ("made", "tin"), ("made", "tin")), kinds, [], all_looks(2))

    def test_every_note_of_one_by_the_words_of_the_document(self):
        for kinds in ORDERS:
            for told in ONES:
                for note in (by_hand(told), note_of(told)):
                    for look in all_looks(len(kinds)):
                        claimed = claims_by_words(told, kinds, look)
                        self.assertIs(note.claims(kinds, look), claimed, (told, kinds, look))

    def test_notes_of_two_by_the_words_of_the_document(self):
        for kinds in ORDERS[1:]:
            for told in TWOS + DEEPER + DEEP:
                note = note_of(told)
                for look in all_looks(len(kinds))[::3]:
                    claimed = claims_by_words(told, kinds, look)
                    self.assertIs(note.claims(kinds, look), claimed, (told, kinds, look))

    def test_a_note_keeps_nothing_of_what_it_was_asked(self):
        kinds = [WOOD, IRON]
        note = note_of(("chief", "wood"))
        self.assertIs(note.claims(kinds, (2, 1)), True)
        kinds.reverse()
        self.assertIs(note.claims(kinds, (2, 1)), False)
        self.assertIs(note.claims([WOOD, TIN], (2, 1)), True)

    def test_what_was_handed_in_stays(self):
        for told in ONES + TWOS:
            kinds = [WOOD, IRON, ORE]
            note = note_of(told)
            note.claims(kinds, (2, 0, 1))
            note.reason(kinds, (2, 0, 1))
            self.assertEqual(kinds, [WOOD, IRON, ORE])


class Told(unittest.TestCase):
    def test_each(self):
        for note, told in (
            (Anything(), ("any",)), (Made("iron"), ("made", "iron")), (Used("tool"), ("used", "tool")),
            (Chief("wood"), ("chief", "wood")), (Over(IRON, WOOD), ("over", ("iron", "tool"), ("wood", "toy"))),
            (Both(Made("a"), Used("b")), ("both", ("made", "a"), ("used", "b"))),
            (Either(Made("a"), Used("b")), ("either", ("made", "a"), ("used", "b"))),
            (But(Made("a"), Used("b")), ("but", ("made", "a"), ("used", "b"))),
            (But(Both(Anything(), Over(BAR, TIN)), Used("a")),
             ("but", ("both", ("any",), ("over", ("iron", "to"), ("tin", "can"))), ("used", "a"))),
        ):
            with self.subTest(told):
                self.assertIsInstance(note, Note)
                self.assertEqual(note.told(), told)
                self.assertIsInstance(note.told(), tuple)
                self.assertEqual(note_of(told).told(), told)

    def test_of_many(self):
        for told in ONES + TWOS + DEEPER + DEEP:
            note = note_of(told)
            self.assertIsInstance(note, Note)
            self.assertEqual(note.told(), told)
            self.assertEqual(by_hand(told).told(), told)
            self.assertEqual(repr(note_of(note.told()).told()), repr(told))

    def test_arguments_go_by_their_names_too(self):
        self.assertEqual(Made(stuff="a").told(), ("made", "a"))
        self.assertEqual(Used(use="a").told(), ("used", "a"))
        self.assertEqual(Chief(stuff="a").told(), ("chief", "a"))
        self.assertEqual(Over(other=WOOD, one=IRON).told(), ("over", IRON, WOOD))
        self.assertEqual(Both(other=Anything(), one=Made("a")).told(), ("both", ("made", "a"), ANY))
        self.assertEqual(Either(other=Anything(), one=Made("a")).told(), ("either", ("made", "a"), ANY))
        self.assertEqual(But(other=Anything(), one=Made("a")).told(), ("but", ("made", "a"), ANY))


class Depth(unittest.TestCase):
    def test_five_is_taken_and_six_refused_on_either_side(self):
        for told in FEW:
            for word in PAIRS:
                for side in (0, 1):
                    for many in range(5):
                        deep = deepened(told, word, side, many)
                        self.assertEqual(note_of(deep).told(), deep)
                    for many in (5, 6, 7, 20):
                        with self.subTest(told, word=word, side=side, many=many), self.assertRaises(NoNote):
                            note_of(deepened(told, word, side, many))

    def test_by_ways_that_turn(self):
        for turns in range(16):
            told = ("made", "iron")
            for step in range(4):
                told = deepened(told, PAIRS[step % 3], turns >> step & 1, 1)
            self.assertEqual(note_of(told).told(), told)
            for side in (0, 1):
                with self.assertRaises(NoNote):
                    note_of(deepened(told, "but", side, 1))

    def test_it_is_the_deeper_of_two_that_counts(self):
        four = deepened(ANY, "both", 0, 3)
        self.assertEqual(note_of(("but", four, four)).told(), ("but", four, four))
        five = ("but", four, four)
        for told in (("both", five, ANY), ("both", ANY, five), ("both", five, five)):
            with self.assertRaises(NoNote):
                note_of(told)

    def test_full_to_the_bound(self):
        told = ("made", "iron")
        for step in range(4):
            told = (PAIRS[step % 3], told, told)
        self.assertEqual(note_of(told).told(), told)
        with self.assertRaises(NoNote):
            note_of(("both", told, told))

    def test_far_too_deep(self):
        for word in PAIRS:
            for side in (0, 1):
                with self.assertRaises(NoNote):
                    note_of(deepened(ANY, word, side, 100000))
        doubled = ANY
        for _ in range(1000):
            doubled = ("both", doubled, doubled)
        with self.assertRaises(NoNote):
            note_of(doubled)


class Refused(unittest.TestCase):
    def refused(self, told):
        with self.subTest(named(told)), self.assertRaises(NoNote):
            note_of(told)

    def refused_within(self, told):
        """At the top, and at each depth at which a note may stand."""
        for word in PAIRS:
            for side in (0, 1):
                for many in range(5):
                    self.refused(deepened(told, word, side, many))
        self.refused(("both", told, told))

    def test_a_list_is_no_tuple(self):
        for told in (
            [], ["any"], ["made", "iron"], ["used", "tool"], ["chief", "iron"], ["over", IRON, WOOD],
            ["both", ANY, ANY], ["either", ANY, ANY], ["but", ANY, ANY],
            ("both", ["any"], ANY), ("both", ANY, ["any"]), (["any"],),
        ):
            self.refused_within(told)

    def test_an_empty_tuple(self):
        self.refused_within(())

    def test_an_unknown_word(self):
        for word in ("", "Any", "ANY", "an", "anys", " any", "none", "make", "user", "ove", "all", "some", "not"):
            for rest in ((), ("iron",), (IRON, WOOD), (ANY, ANY), (("made", "iron"), ANY), ("iron", "tool")):
                self.refused_within((word,) + rest)

    def test_a_word_that_is_no_text(self):
        for word in things():
            if not isinstance(word, str):
                for rest in ((), ("iron",), (IRON, WOOD), (ANY, ANY)):
                    self.refused_within((word,) + rest)

    def test_a_word_with_the_rest_of_another(self):
        rests = {"any": (), "made": ("iron",), "used": ("iron",), "chief": ("iron",), "over": (IRON, WOOD)}
        for word in ("any", "made", "used", "chief", "over") + PAIRS:
            for rest in ((), ("iron",), (IRON, WOOD), (ANY, ANY)):
                if rest != rests.get(word, (ANY, ANY)):
                    self.refused_within((word,) + rest)

    def test_too_many_or_too_few(self):
        for told in FEW + TWOS[::20]:
            self.refused_within(told + (None,))
            self.refused_within(told + (told[-1],))
            self.refused_within(told + told)
            self.refused_within(told + (0,) * 1000)
            self.refused_within(told[:-1])

    def test_a_name_that_is_none(self):
        for name in no_names():
            for word in ("made", "used", "chief"):
                self.refused_within((word, name))

    def test_a_kind_that_is_none(self):
        for kind in things() + [
            ["iron", "tool"], ("iron",), ("iron", "tool", "more"), ("iron", "tool", 1), (IRON, WOOD), ("any", ANY), (),
        ]:
            self.refused_within(("over", kind, WOOD))
            self.refused_within(("over", WOOD, kind))
            self.refused_within(("over", kind, kind))

    def test_a_name_of_a_kind_that_is_none(self):
        for name in no_names():
            for kind in ((name, "tool"), ("iron", name), (name, name)):
                self.refused(("over", kind, WOOD))
                self.refused(("over", WOOD, kind))
                self.refused(("but", ANY, ("over", WOOD, kind)))

    def test_things_of_any_kind(self):
        for thing in things() + ["any", "made iron", Anything(), Made("iron"), Made, {"any": 1}]:
            self.refused_within(thing)

    def test_good_ones_are_taken_behind_a_refusal(self):
        self.refused(("made", "Iron"))
        self.assertEqual(note_of(("made", "iron")).told(), ("made", "iron"))


class Reasons(unittest.TestCase):
    def test_each_of_both_truths(self):
        kinds = [WOOD, IRON]
        for told, look, reason in (
            (("any",), (0, 1), (True, None)),
            (("made", "iron"), (1, 2), (True, 1)),
            (("made", "wood"), (1, 2), (True, 0)),
            (("made", "iron"), (1, 0), (False, None)),
            (("used", "toy"), (1, 2), (True, 0)),
            (("used", "toy"), (0, 1), (False, None)),
            (("chief", "iron"), (1, 2), (True, 1)),
            (("chief", "iron"), (1, 1), (True, 1)),
            (("chief", "iron"), (2, 1), (False, None)),
            (("over", WOOD, IRON), (2, 1), (True, None)),
            (("over", WOOD, IRON), (1, 1), (False, None)),
            (("both", ("made", "iron"), ("made", "wood")), (1, 1), (True, (True, 1), (True, 0))),
            (("both", ("made", "iron"), ("made", "wood")), (1, 0), (False, 0, (False, None))),
            (("both", ("made", "iron"), ("made", "wood")), (0, 1), (False, 1, (False, None))),
            (("either", ("made", "iron"), ("made", "wood")), (0, 1), (True, 0, (True, 1))),
            (("either", ("made", "iron"), ("made", "wood")), (1, 0), (True, 1, (True, 0))),
            (("either", ("made", "tin"), ("over", IRON, WOOD)), (1, 0), (False, (False, None), (False, None))),
            (("but", ("made", "iron"), ("made", "wood")), (0, 1), (True, (True, 1), (False, None))),
            (("but", ("made", "iron"), ("made", "tin")), (1, 1), (True, (True, 1), (False, None))),
            (("but", ("made", "iron"), ("made", "tin")), (1, 0), (False, 0, (False, None))),
            (("but", ("made", "iron"), ("made", "wood")), (1, 1), (False, 1, (True, 0))),
        ):
            for note in (by_hand(told), note_of(told)):
                with self.subTest(told, look=look):
                    self.assertEqual(repr(note.reason(kinds, look)), repr(reason))

    def told_by_words(self, told, kinds, look):
        reason = note_of(told).reason(kinds, look)
        self.assertIn(repr(reason), [repr(other) for other in reasons_by_words(told, kinds, look)], (told, kinds, look))

    def test_every_note_of_one_by_the_words_of_the_document(self):
        for kinds in ORDERS:
            for told in ONES:
                for look in all_looks(len(kinds)):
                    self.told_by_words(told, kinds, look)

    def test_notes_of_two_by_the_words_of_the_document(self):
        for kinds in ORDERS[2:]:
            for told in TWOS + DEEPER + DEEP:
                for look in all_looks(len(kinds)):
                    self.told_by_words(told, kinds, look)


if __name__ == "__main__":
    unittest.main()
