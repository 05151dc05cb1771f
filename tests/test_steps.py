import unittest

from tariffgate.errors import NoneClaims, TwoClaim
from tariffgate.picker import way_of
from tariffgate.steps import heading_by, steps_of
from tariffgate.tree import Tree
from things import (
    ANY, BAR, CHAINS, CLEAR, DRAWN, FOUR_DEEP, IRON, ONE_ROW, TWENTY_FOUR, UNCLEAR, WOOD, Spiteful, alone_by_words,
    deep_tuple, looks_by_words, named, own_list, reasons_by_words, straight_beneath, things, way_by_words,
)

SAMPLES = CLEAR + UNCLEAR + DRAWN
# A tree with few rows in which both rules, alone and several reasons are met with.
SMALL = ([IRON, WOOD, BAR], "near", [
    ((1,), ("made", "iron"), "one"),
    ((2,), ("made", "wood"), "near"),
    ((3,), ("made", "tin"), "one"),
    ((1, 1), ("either", ("used", "to"), ("chief", "iron")), "one"),
    ((1, 2), ("but", ANY, ("either", ("used", "to"), ("chief", "iron"))), "one"),
    ((2, 1), ("both", ANY, ("made", "iron")), "one"),
    ((2, 2), ("over", WOOD, IRON), "one"),
    ((2, 3), ANY, "one"),
])


def changed(row, place, part):
    """The same row with another part in one place."""
    if isinstance(row, list):
        return row[:place] + [part] + row[place + 1:]
    return row[:place] + (part,) + row[place + 1:]


def in_row(steps, step, row, place, part):
    """The same steps with another part in one place of one row."""
    rows = changed(steps[step][1], row, changed(steps[step][1][row], place, part))
    return changed(steps, step, changed(steps[step], 1, rows))


def rows_in(steps):
    return [(step, row) for step in range(len(steps)) for row in range(len(steps[step][1]))]


def rule_in(sample, at):
    return dict([((), sample[1])] + [(number, rule) for number, note, rule in sample[2]])[at]


def needed(sample, step, row):
    return rule_in(sample, step[0]) == "near" and step[1][row][1][0]


def in_each_place(steps, thing):
    """A thing in each place of steps where a thing is looked at, but for those within reasons."""
    yield [thing]
    yield steps + [thing]
    yield [thing] + steps
    for place, step in enumerate(steps):
        yield changed(steps, place, thing)
        for part in range(3):
            yield changed(steps, place, changed(step, part, thing))
        yield changed(steps, place, step + (thing,))
        yield changed(steps, place, changed(step, 1, step[1] + [thing]))
        for row in range(len(step[1])):
            yield changed(steps, place, changed(step, 1, changed(step[1], row, thing)))
            yield changed(steps, place, changed(step, 1, changed(step[1], row, step[1][row] + (thing,))))
            yield in_row(steps, place, row, 0, thing)
            yield in_row(steps, place, row, 1, thing)


class Told(unittest.TestCase):
    def test_one_row(self):
        tree = Tree(*ONE_ROW)
        self.assertEqual(steps_of(tree, (1,)), [((), [((84,), (True, None), None)], (84,))])

    def test_by_hand(self):
        tree = Tree(*FOUR_DEEP)
        # No note here has more than one reason for these looks.
        self.assertEqual(steps_of(tree, (1, 0, 1, 0)), [
            ((), [((44,), (True, None), (True, None)), ((84,), (False, None), None)], (44,)),
            ((44,), [((44, 1), (True, None), (True, None)), ((44, 9), (True, 0), (True, 0))], (44, 9)),
            ((44, 9), [((44, 9, 1), (True, 2), None), ((44, 9, 2), (False, 1, (True, 2)), None)], (44, 9, 1)),
        ])
        self.assertEqual(steps_of(tree, (2, 1, 0, 0)), [
            ((), [((44,), (True, None), (True, None)), ((84,), (True, 1), (False, None))], (84,)),
            ((84,), [((84, 1), (True, 1), None), ((84, 2), (False, 1, (True, 1)), None)], (84, 1)),
            ((84, 1), [
                ((84, 1, 3), (True, 0), (True, 0)), ((84, 1, 4), (False, None), None),
                ((84, 1, 5), (True, None), (True, None)),
            ], (84, 1, 3)),
        ])

    def test_of_all_looks(self):
        for sample in SAMPLES + [SMALL]:
            kinds, root, rows = sample
            tree = Tree(*sample)
            for look in looks_by_words(len(kinds)):
                way, refusal = way_by_words(sample, look)
                if refusal is None:
                    steps = steps_of(tree, look)
                    self.assertIsInstance(steps, list)
                    self.assertEqual([step[2] for step in steps], way)
                    self.assertEqual([step[0] for step in steps], [()] + way[:-1])
                    for step in steps:
                        self.in_a_step(sample, look, step)

    def in_a_step(self, sample, look, step):
        kinds, root, rows = sample
        self.assertIsInstance(step, tuple)
        self.assertEqual(len(step), 3)
        self.assertIsInstance(step[1], list)
        below = straight_beneath(rows, step[0])
        self.assertEqual([row[0] for row in step[1]], [number for number, note in below])
        for place, (number, reason, alone) in enumerate(step[1]):
            note = below[place][1]
            self.assertIn(repr(reason), map(repr, reasons_by_words(note, kinds, look)))
            if needed(sample, step, place):
                self.assertIn(repr(alone), map(repr, reasons_by_words(note, kinds, alone_by_words(look))))
            else:
                self.assertIsNone(alone)

    def test_refused_as_the_way_is(self):
        for sample in SAMPLES:
            tree = Tree(*sample)
            for look in looks_by_words(len(sample[0])):
                way, words = way_by_words(sample, look)
                if words is not None:
                    with self.assertRaises(NoneClaims if words == "none" else TwoClaim) as met:
                        steps_of(tree, look)
                    parcel = [kind + (weight,) for kind, weight in zip(sample[0], look) if weight]
                    self.assertEqual(met.exception.parcel, parcel)
                    self.assertEqual(met.exception.at, way[-1] if way else ())
                    if words != "none":
                        self.assertEqual((met.exception.one, met.exception.other), words[1:])

    def test_the_lists_told_are_new_ones(self):
        tree = Tree(*FOUR_DEEP)
        kept = steps_of(tree, (2, 1, 0, 0))
        told = steps_of(tree, (2, 1, 0, 0))
        for step in told:
            step[1].clear()
        told.clear()
        self.assertEqual(steps_of(tree, (2, 1, 0, 0)), kept)
        self.assertEqual(tree.below(()), [(44,), (84,)])
        self.assertEqual(way_of(tree, (2, 1, 0, 0)), [(84,), (84, 1), (84, 1, 3)])


class Leads(unittest.TestCase):
    def test_its_own_steps_lead_to_the_heading(self):
        for sample in SAMPLES + [SMALL]:
            tree = Tree(*sample)
            for look in looks_by_words(len(sample[0])):
                way, refusal = way_by_words(sample, look)
                if refusal is None:
                    self.assertEqual(heading_by(tree, look, steps_of(tree, look)), way[-1])

    def test_by_hand(self):
        steps = [
            ((), [((1,), (True, 0), (True, 0)), ((2,), (True, 1), (False, None)), ((3,), (False, None), None)], (2,)),
            ((2,), [
                ((2, 1), (True, (True, None), (True, 0)), (True, (True, None), (True, 0))),
                ((2, 2), (False, None), None),
                ((2, 3), (True, None), (True, None)),
            ], (2, 1)),
        ]
        # made wood claims fewer looks than made iron, and both with any and made iron fewer than any.
        self.assertEqual(heading_by(Tree(*SMALL), (2, 1, 0), steps), (2, 1))

    def test_other_right_reasons(self):
        for sample in (SMALL, FOUR_DEEP, CHAINS, DRAWN[6], DRAWN[35]):
            kinds = sample[0]
            tree = Tree(*sample)
            notes = dict((row[0], row[1]) for row in sample[2])
            for look in looks_by_words(len(kinds))[::2]:
                if way_by_words(sample, look)[1] is None:
                    steps = steps_of(tree, look)
                    for step, row in rows_in(steps):
                        note = notes[steps[step][1][row][0]]
                        for reason in reasons_by_words(note, kinds, look):
                            self.leads(tree, look, in_row(steps, step, row, 1, reason), steps[-1][2])
                        if needed(sample, steps[step], row):
                            for alone in reasons_by_words(note, kinds, alone_by_words(look)):
                                self.leads(tree, look, in_row(steps, step, row, 2, alone), steps[-1][2])

    def leads(self, tree, look, steps, heading):
        self.assertEqual(heading_by(tree, look, steps), heading)

    def test_alone_where_none_is_needed_is_not_looked_at(self):
        for sample, looks in ((SMALL, looks_by_words(3)[::3]), (FOUR_DEEP, [(1, 0, 1, 0), (2, 1, 0, 0)])):
            tree = Tree(*sample)
            for look in looks:
                steps = steps_of(tree, look)
                free = [(step, row) for step, row in rows_in(steps) if not needed(sample, steps[step], row)]
                self.assertTrue(free)
                for step, row in free:
                    for thing in things() + [(True, None), (False, None), (True, 0), [(True, 0)]]:
                        with self.subTest(look, thing=named(thing)):
                            self.leads(tree, look, in_row(steps, step, row, 2, thing), steps[-1][2])

    def test_what_was_handed_in_stays(self):
        tree = Tree(*SMALL)
        for look in looks_by_words(3):
            steps = steps_of(tree, look)
            kept = [(at, list(rows), number) for at, rows, number in steps]
            heading_by(tree, look, steps)
            heading_by(tree, look, steps[1:])
            self.assertEqual(steps, kept)

    def test_good_ones_lead_behind_bad_ones(self):
        tree = Tree(*SMALL)
        steps = steps_of(tree, (1, 2, 0))
        heading = way_of(tree, (1, 2, 0))[-1]
        self.assertIsNone(heading_by(tree, (1, 2, 0), steps[:-1]))
        self.assertEqual(heading_by(tree, (1, 2, 0), steps), heading)


class LeadsNowhere(unittest.TestCase):
    def each(self):
        """Steps that lead to their heading, in some trees."""
        for sample in (SMALL, FOUR_DEEP, CHAINS, ONE_ROW, TWENTY_FOUR):
            tree = Tree(*sample)
            for look in looks_by_words(len(sample[0]))[::4]:
                yield sample, tree, look, steps_of(tree, look)

    def nowhere(self, tree, look, steps):
        with self.subTest(look):
            self.assertIsNone(heading_by(tree, look, steps))

    def test_a_row_left_out_or_one_too_many(self):
        for sample, tree, look, steps in self.each():
            for place, (at, rows, number) in enumerate(steps):
                for row in range(len(rows)):
                    for others in (rows[:row] + rows[row + 1:], rows[:row] + [rows[row]] + rows[row:]):
                        self.nowhere(tree, look, changed(steps, place, (at, others, number)))
                self.nowhere(tree, look, changed(steps, place, (at, [], number)))
                self.nowhere(tree, look, changed(steps, place, (at, rows + [((98, 97), (True, None), None)], number)))

    def test_rows_in_another_order(self):
        for sample, tree, look, steps in self.each():
            for place, (at, rows, number) in enumerate(steps):
                if len(rows) > 1:
                    for others in (rows[::-1], rows[1:] + rows[:1], [rows[1], rows[0]] + rows[2:]):
                        self.nowhere(tree, look, changed(steps, place, (at, others, number)))

    def test_a_row_of_another_number(self):
        for sample, tree, look, steps in self.each():
            for step, row in rows_in(steps):
                right = steps[step][1][row][0]
                others = [number for number, note, rule in sample[2] if number != right]
                for number in others + [(), (7,), right + (98,), right[:-1], list(right), right[:-1] + (100,), None]:
                    self.nowhere(tree, look, in_row(steps, step, row, 0, number))

    def test_wrong_reasons(self):
        for sample, tree, look, steps in self.each():
            kinds = sample[0]
            notes = dict((row[0], row[1]) for row in sample[2])
            pool = {}
            for note in notes.values():
                for other in (look, alone_by_words(look), looks_by_words(len(kinds))[-1]):
                    pool.update((repr(reason), reason) for reason in reasons_by_words(note, kinds, other))
            for step, row in rows_in(steps):
                note = notes[steps[step][1][row][0]]
                self.each_wrong(tree, look, steps, (step, row, 1), pool, reasons_by_words(note, kinds, look))
                if needed(sample, steps[step], row):
                    right = reasons_by_words(note, kinds, alone_by_words(look))
                    self.each_wrong(tree, look, steps, (step, row, 2), pool, right)

    def each_wrong(self, tree, look, steps, where, pool, right):
        step, row, place = where
        words = [repr(reason) for reason in right]
        for word, reason in pool.items():
            if word not in words:
                self.nowhere(tree, look, in_row(steps, step, row, place, reason))
        for reason in (None, True, (True,), (), list(right[0]), (right[0],), right[0] + (None,), (not right[0][0],)):
            self.nowhere(tree, look, in_row(steps, step, row, place, reason))

    def test_alone_by_the_look_instead_of_the_chief_alone(self):
        tree = Tree([WOOD, IRON], "near", [((1,), ("made", "wood"), "one"), ((2,), ("made", "iron"), "one")])
        rows = [((1,), (True, 0), (False, None)), ((2,), (True, 1), (True, 1))]
        self.assertEqual(heading_by(tree, (1, 2), [((), rows, (2,))]), (2,))
        self.nowhere(tree, (1, 2), [((), rows, (1,))])
        for alone in ((True, 0), None, (True, None), (True, 1)):
            rows = [((1,), (True, 0), alone), ((2,), (True, 1), (True, 1))]
            self.nowhere(tree, (1, 2), [((), rows, (1,))])
            self.nowhere(tree, (1, 2), [((), rows, (2,))])

    def test_another_number_picked(self):
        for sample, tree, look, steps in self.each():
            for place, (at, rows, right) in enumerate(steps):
                others = [number for number, note, rule in sample[2] if number != right]
                for number in others + [(), at, None, list(right), right + (1,), right[-1], (98,), (100,)]:
                    self.nowhere(tree, look, changed(steps, place, (at, rows, number)))

    def test_a_whole_way_by_another_number(self):
        tree = Tree(*SMALL)
        steps = [
            ((), [((1,), (True, 0), (True, 0)), ((2,), (True, 1), (False, None)), ((3,), (False, None), None)], (1,)),
            ((1,), [((1, 1), (True, 1, (True, 0)), None), ((1, 2), (False, 1, (True, 1, (True, 0))), None)], (1, 1)),
        ]
        # Each step is right by itself, but for the number that is picked at the root.
        self.nowhere(tree, (2, 1, 0), steps)
        rows = [((1,), (True, 0), (True, 0)), ((2,), (False, None), None), ((3,), (False, None), None)]
        self.assertEqual(heading_by(tree, (1, 0, 0), [((), rows, (1,)), steps[1]]), (1, 1))

    def test_cut_short(self):
        for sample, tree, look, steps in self.each():
            for many in range(len(steps)):
                self.nowhere(tree, look, steps[:many])

    def test_gone_on_too_far(self):
        for sample, tree, look, steps in self.each():
            heading = steps[-1][2]
            for step in steps + [
                (heading, [], heading), (heading, [], None), (heading, [], ()), (heading, [], heading + (1,)),
                (heading, [(heading, (True, None), None)], heading),
                (heading, [(heading + (1,), (True, None), (True, None))], heading + (1,)), ((), [], ()), None,
            ]:
                self.nowhere(tree, look, steps + [step])

    def test_begun_elsewhere(self):
        for sample, tree, look, steps in self.each():
            for many in range(1, len(steps)):
                self.nowhere(tree, look, steps[many:])
            for at in (None, [], (84,), 0, "", ((),), False):
                self.nowhere(tree, look, changed(steps, 0, changed(steps[0], 0, at)))

    def test_not_going_on_where_the_one_ahead_led(self):
        for sample, tree, look, steps in self.each():
            for place in range(len(steps)):
                for at in [number for number, note, rule in sample[2]] + [(), steps[place][2], list(steps[place][0])]:
                    if at != steps[place][0]:
                        self.nowhere(tree, look, changed(steps, place, changed(steps[place], 0, at)))
            for place in range(len(steps) - 1):
                self.nowhere(tree, look, steps[:place] + steps[place + 1:])
                self.nowhere(tree, look, changed(changed(steps, place, steps[place + 1]), place + 1, steps[place]))
                self.nowhere(tree, look, steps[:place] + [steps[place]] + steps[place:])

    def test_steps_of_another_look(self):
        for sample in (SMALL, FOUR_DEEP):
            tree = Tree(*sample)
            looks = looks_by_words(len(sample[0]))
            notes = dict((row[0], row[1]) for row in sample[2])
            for look in looks[::5]:
                steps = steps_of(tree, look)
                for other in looks[::3]:
                    wanted = steps[-1][2]
                    for at, rows, number in steps:
                        for beneath, reason, alone in rows:
                            if repr(reason) not in map(repr, reasons_by_words(notes[beneath], sample[0], other)):
                                wanted = None
                            right = reasons_by_words(notes[beneath], sample[0], alone_by_words(other))
                            if alone is not None and repr(alone) not in map(repr, right):
                                wanted = None
                    self.assertEqual(heading_by(tree, other, steps), wanted, (look, other))

    def test_lists_and_tuples_in_one_anothers_place(self):
        for sample, tree, look, steps in self.each():
            self.nowhere(tree, look, tuple(steps))
            for place, step in enumerate(steps):
                self.nowhere(tree, look, changed(steps, place, list(step)))
                self.nowhere(tree, look, changed(steps, place, changed(step, 1, tuple(step[1]))))
                self.nowhere(tree, look, changed(steps, place, changed(step, 2, list(step[2]))))
                for row in range(len(step[1])):
                    rows = changed(step[1], row, list(step[1][row]))
                    self.nowhere(tree, look, changed(steps, place, changed(step, 1, rows)))

    def test_too_few_and_too_many_parts(self):
        for sample, tree, look, steps in self.each():
            for place, step in enumerate(steps):
                for other in ((), step[:1], step[:2], step[1:], step + (None,), step + step[2:], (step,)):
                    self.nowhere(tree, look, changed(steps, place, other))
                for row, told in enumerate(step[1]):
                    for other in ((), told[:1], told[:2], told[1:], told + (None,), (told,)):
                        rows = changed(step[1], row, other)
                        self.nowhere(tree, look, changed(steps, place, changed(step, 1, rows)))

    def test_numbers_that_are_the_same_to_python(self):
        tree = Tree([IRON], "one", [((1,), ANY, "one"), ((1, 2), ANY, "near")])
        rows, beneath = [((1,), (True, None), None)], [((1, 2), (True, None), None)]
        self.assertEqual(heading_by(tree, (1,), [((), rows, (1,)), ((1,), beneath, (1, 2))]), (1, 2))
        self.nowhere(tree, (1,), [((), rows, (1.0,)), ((1,), beneath, (1, 2))])
        self.nowhere(tree, (1,), [((), rows, (1,)), ((1.0,), beneath, (1, 2))])
        self.nowhere(tree, (1,), [((), rows, (1,)), ((1,), beneath, (1, 2.0))])
        self.nowhere(tree, (1,), [((), rows, (1,)), ((1,), [((1, 2.0), (True, None), None)], (1, 2))])

    def test_where_no_heading_is(self):
        kinds = [WOOD, IRON]
        wood, iron = (True, 0), (True, 1)
        two = Tree(kinds, "one", [((1,), ("made", "wood"), "one"), ((2,), ("made", "iron"), "one")])
        none = Tree(kinds, "near", [((1,), ("made", "tin"), "one"), ((2,), ("over", WOOD, IRON), "one")])
        for number in ((1,), (2,), (), None):
            self.nowhere(two, (1, 1), [((), [((1,), wood, wood), ((2,), iron, iron)], number)])
            self.nowhere(two, (1, 1), [((), [((1,), wood, None), ((2,), iron, None)], number)])
            self.nowhere(none, (0, 1), [((), [((1,), (False, None), None), ((2,), (False, None), None)], number)])
        self.assertEqual(heading_by(two, (0, 1), [((), [((1,), (False, None), None), ((2,), iron, None)], (2,))]), (2,))

    def test_things_of_any_kind(self):
        odd = things() + [(Spiteful(),), [Spiteful()], (1, Spiteful()), (deep_tuple(), own_list()), [[]], [()], [None]]
        for sample, looks in ((FOUR_DEEP, [(1, 0, 1, 0), (2, 1, 0, 0)]), (ONE_ROW, [(1,)])):
            tree = Tree(*sample)
            for look in looks:
                steps = steps_of(tree, look)
                for thing in odd:
                    self.any_kind(tree, look, thing, thing)
                    # () is where they have to begin.
                    if not isinstance(thing, tuple) or len(thing) > 0:
                        for row in in_each_place(steps, thing):
                            self.any_kind(tree, look, thing, row)

    def any_kind(self, tree, look, thing, steps):
        with self.subTest(look, thing=named(thing)):
            self.assertIsNone(heading_by(tree, look, steps))

    def test_things_of_any_kind_in_the_place_of_alone(self):
        tree = Tree(*SMALL)
        steps = steps_of(tree, (1, 2, 0))
        wanted = [(step, row) for step, row in rows_in(steps) if needed(SMALL, steps[step], row)]
        self.assertEqual(len(wanted), 5)
        for step, row in wanted:
            for thing in things():
                self.any_kind(tree, (1, 2, 0), thing, in_row(steps, step, row, 2, thing))


if __name__ == "__main__":
    unittest.main()
