import unittest

from tariffgate.looks import all_looks
from tariffgate.notes import note_of
from tariffgate.reasons import truth_of
from things import (
    BAR, DEEP, DEEPER, FEW, IRON, ONES, ORDERS, ORE, TIN, TWOS, WOOD, claims_by_words, deep_tuple, named,
    reasons_by_words, things,
)


def with_part(row, place, part):
    return row[:place] + (part,) + row[place + 1:]


def others_of(part):
    """What might stand in the place of a truth, a place, a side or nothing. No truth stands for 0 or 1 here,
    nor 0 or 1 for a truth."""
    if isinstance(part, bool):
        return [not part, None, str(part), 2, (part,)]
    if isinstance(part, int):
        return [0, 1, 2, 3, -1, -2, part + 4, 10 ** 60, None, float(part), str(part), (part,), [part]]
    return [0, 1, -1, "", "None", (), [], (None,), float("nan")]


def varied(reason):
    """Reasons that are this one but for one place in it, at whatever depth."""
    rows = [None, (), list(reason), (reason,), repr(reason)]
    rows += [reason[:1], reason[:-1], reason + (None,), reason + reason[-1:]]
    for place, part in enumerate(reason):
        inner = varied(part) if isinstance(part, tuple) else others_of(part)
        rows += [with_part(reason, place, other) for other in inner]
    return rows


def put_within(reason, thing):
    """A thing in each place of a reason, at whatever depth, and in the place of the whole."""
    rows = [thing]
    for place, part in enumerate(reason):
        inner = put_within(part, thing) if isinstance(part, tuple) else [thing]
        rows += [with_part(reason, place, other) for other in inner]
    return rows


class HoldsUp(unittest.TestCase):
    def test_the_reason_of_each_note(self):
        for kinds in ORDERS:
            for told in ONES + TWOS[::7]:
                for look in all_looks(len(kinds)):
                    reason = note_of(told).reason(kinds, look)
                    claimed = claims_by_words(told, kinds, look)
                    self.assertIs(truth_of(told, kinds, look, reason), claimed, (told, kinds, look))

    def test_the_reason_of_deeper_notes(self):
        for kinds in ORDERS[2:]:
            for told in TWOS + DEEPER + DEEP:
                for look in all_looks(len(kinds)):
                    reason = note_of(told).reason(kinds, look)
                    claimed = claims_by_words(told, kinds, look)
                    self.assertIs(truth_of(told, kinds, look, reason), claimed, (told, kinds, look))

    def test_by_another_place_or_the_other_side(self):
        kinds = [IRON, WOOD, BAR]
        iron, wood, tin = ("made", "iron"), ("made", "wood"), ("made", "tin")
        for told, look, reasons in (
            (iron, (1, 2, 1), [(True, 0), (True, 2)]),
            (("chief", "iron"), (1, 0, 1), [(True, 0), (True, 2)]),
            (("both", tin, tin), (1, 1, 0), [(False, 0, (False, None)), (False, 1, (False, None))]),
            (("either", wood, iron), (1, 1, 1), [(True, 0, (True, 1)), (True, 1, (True, 0)), (True, 1, (True, 2))]),
            (("but", tin, wood), (1, 1, 0), [(False, 0, (False, None)), (False, 1, (True, 1))]),
            (("but", iron, tin), (1, 1, 1), [(True, (True, 0), (False, None)), (True, (True, 2), (False, None))]),
        ):
            for reason in reasons:
                with self.subTest(told, reason=reason):
                    self.assertIs(truth_of(told, kinds, look, reason), reason[0])

    def test_all_that_say_what_is_so(self):
        for kinds in ORDERS[:4]:
            for told in ONES + TWOS + DEEPER[::5] + DEEP:
                for look in all_looks(len(kinds))[::2]:
                    for reason in reasons_by_words(told, kinds, look):
                        self.assertIs(truth_of(told, kinds, look, reason), reason[0], (told, kinds, look, reason))

    def test_what_was_handed_in_stays(self):
        kinds = [WOOD, IRON, ORE]
        reason = [True, 0]
        for told in FEW:
            truth_of(told, kinds, (2, 1, 1), reason)
            truth_of(told, kinds, (2, 1, 1), (True, reason))
        self.assertEqual((kinds, reason), ([WOOD, IRON, ORE], [True, 0]))


class HoldsUpNot(unittest.TestCase):
    def none(self, told, kinds, look, reason):
        with self.subTest(told, look=look):
            self.assertIsNone(truth_of(told, kinds, look, reason))

    def test_by_hand(self):
        kinds = [WOOD, IRON, BAR]
        wood, iron = ("made", "wood"), ("made", "iron")
        for told, look, reason in (
            (("any",), (1, 0, 0), (False, None)),
            (("any",), (1, 0, 0), (True,)),
            (("any",), (1, 0, 0), (True, 0)),
            (iron, (1, 1, 0), (True, 0)),
            (iron, (1, 1, 0), (True, 2)),
            (iron, (1, 1, 0), (True, -2)),
            (iron, (1, 0, 1), (True, -1)),
            (iron, (1, 0, 1), (True, 3)),
            (iron, (1, 0, 1), (True, None)),
            (iron, (1, 0, 1), (False, None)),
            (iron, (1, 0, 1), (False, 2)),
            (iron, (1, 0, 0), (False, 0)),
            (("used", "toy"), (0, 1, 0), (True, 0)),
            (("chief", "iron"), (1, 1, 2), (True, 1)),
            (("chief", "iron"), (2, 1, 0), (True, 1)),
            (("chief", "iron"), (1, 1, 0), (False, None)),
            (("over", WOOD, IRON), (1, 1, 0), (True, None)),
            (("over", WOOD, IRON), (2, 1, 0), (False, None)),
            (("over", WOOD, IRON), (2, 1, 0), (True, 0)),
            (("over", TIN, IRON), (1, 0, 0), (True, None)),
            (("both", wood, iron), (1, 1, 0), (True, (True, 1), (True, 0))),
            (("both", wood, iron), (1, 0, 0), (True, (True, 0), (False, None))),
            (("both", wood, iron), (1, 0, 0), (False, 0, (False, None))),
            (("both", wood, iron), (1, 0, 0), (False, 0, (True, 0))),
            (("both", wood, iron), (1, 0, 0), (False, -1, (False, None))),
            (("both", wood, iron), (1, 0, 0), (False, 2, (False, None))),
            (("either", wood, iron), (1, 0, 0), (True, 1, (False, None))),
            (("either", wood, iron), (1, 0, 0), (True, 1, (True, 0))),
            (("either", wood, iron), (1, 0, 0), (True, (True, 0), (False, None))),
            (("either", wood, iron), (1, 0, 0), (False, (True, 0), (False, None))),
            (("but", wood, iron), (1, 1, 0), (True, (True, 0), (True, 1))),
            (("but", wood, iron), (1, 1, 0), (False, 0, (True, 0))),
            (("but", wood, iron), (0, 1, 0), (False, 1, (False, None))),
            (("but", wood, iron), (1, 0, 0), (False, 1, (False, None))),
            (("but", wood, iron), (1, 0, 0), (True, (False, None), (True, 0))),
        ):
            self.none(told, kinds, look, reason)

    def test_but_for_one_place(self):
        for kinds in ORDERS[2:]:
            for told in ONES + TWOS + DEEPER[::9] + DEEP:
                for look in all_looks(len(kinds))[::2]:
                    good = reasons_by_words(told, kinds, look)
                    words = {repr(reason): reason[0] for reason in good}
                    for reason in varied(good[0]) + varied(good[-1]):
                        wanted = words.get(repr(reason)) if isinstance(reason, tuple) else None
                        if truth_of(told, kinds, look, reason) is not wanted:
                            self.fail((told, kinds, look, reason))

    def test_reasons_of_other_notes_and_looks(self):
        for kinds in ORDERS[3:5]:
            notes = ONES[::4] + TWOS[::8]
            looks = all_looks(len(kinds))
            pool = {}
            for told in notes:
                for look in looks:
                    for reason in reasons_by_words(told, kinds, look):
                        pool[repr(reason)] = reason
            for told in notes:
                for look in looks:
                    words = {repr(reason): reason[0] for reason in reasons_by_words(told, kinds, look)}
                    for word, reason in pool.items():
                        if truth_of(told, kinds, look, reason) is not words.get(word):
                            self.fail((told, kinds, look, reason))

    def test_lists_in_the_place_of_tuples(self):
        kinds = [WOOD, IRON]
        for told, look, reason in (
            (("any",), (1, 0), [True, None]),
            (("made", "iron"), (1, 1), [True, 1]),
            (("over", WOOD, IRON), (2, 1), [True, None]),
            (("both", ("any",), ("any",)), (2, 1), [True, (True, None), (True, None)]),
            (("both", ("any",), ("any",)), (2, 1), (True, [True, None], (True, None))),
            (("both", ("any",), ("any",)), (2, 1), (True, (True, None), [True, None])),
            (("either", ("any",), ("any",)), (2, 1), (True, 1, [True, None])),
            (("but", ("any",), ("any",)), (2, 1), (False, 1, [True, None])),
        ):
            self.none(told, kinds, look, reason)

    def test_things_of_any_kind(self):
        odd = [thing for thing in things() if thing is not None and not isinstance(thing, int)]
        kinds = [ORE, WOOD, IRON]
        for told in ONES[::3] + TWOS[::9] + DEEP:
            for look in ((0, 0, 1), (1, 2, 2), (3, 2, 1)):
                reason = note_of(told).reason(kinds, look)
                for thing in odd:
                    for row in put_within(reason, thing):
                        with self.subTest(told, look=look, thing=named(thing)):
                            self.assertIsNone(truth_of(told, kinds, look, row))
                for thing in (None, True, False, 0, 1, -1, 10 ** 60):
                    self.none(told, kinds, look, thing)

    def test_far_too_deep(self):
        inner = (True, None)
        for _ in range(100000):
            inner = (True, inner, inner)
        told = ("both", ("any",), ("both", ("any",), ("made", "iron")))
        for reason in (inner, deep_tuple(), (True, inner), (True, deep_tuple(), inner), (False, 1, inner)):
            self.none(told, [IRON], (1,), reason)

    def test_a_good_one_is_told_behind_a_bad_one(self):
        self.assertIsNone(truth_of(("made", "iron"), [BAR, IRON], (1, 1), (True, 2)))
        self.assertIs(truth_of(("made", "iron"), [BAR, IRON], (1, 1), (True, 1)), True)
        self.assertIsNone(truth_of(("made", "wood"), [BAR, IRON], (1, 1), (True, 1)))
        self.assertIs(truth_of(("made", "wood"), [BAR, IRON], (1, 1), (False, None)), False)


if __name__ == "__main__":
    unittest.main()
